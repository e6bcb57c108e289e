/-
  The statement KneadOrdersSaid: for all numbers of lumps out folds come back as in folds of two fewer lumps do, after so many as are the smallest power of 2 that leaves 1, and the known answers come out. No condition.
-/
import Derived.Test.YthjjpmcefiddmaaM
namespace Go.Proofs.Ythjjpmcefiddmaa.kneadOrders
open Go.ChangeShapes Go.WideShapes Go.ChangeAt Go.RowKit Go.Joins

attribute [local go_sem] Oper.semAt_some

/-- The powers of 2 that the law walks through: what is left by n. -/
def powN (n : Nat) : Nat → Nat
  | 0 => 2 % n
  | k + 1 => 2 * powN n k % n
theorem all_orders : (List.range 15).all (fun h => decide (timesN (h + 2) 0 = timesN (h + 1) 1) && (List.range (timesN (h + 2) 0)).all (fun t => decide ((powN (2 * (h + 2) - 1) t = 1) ↔ t + 1 = timesN (h + 2) 0)) && decide (timesN (h + 2) 0 ≤ 40) && decide (1 ≤ timesN (h + 2) 0)) = true := by decide +kernel
theorem orders {h : Nat} (h2 : 2 ≤ h) (h16 : h ≤ 16) : timesN h 0 = timesN (h - 1) 1 ∧ (∀ t, t < timesN h 0 → (powN (2 * h - 1) t = 1 ↔ t + 1 = timesN h 0)) ∧ timesN h 0 ≤ 40 ∧ 1 ≤ timesN h 0 := by
  have h0 := List.all_eq_true.1 all_orders (h - 2) (List.mem_range.2 (by omega))
  simp only [Bool.and_eq_true, decide_eq_true_eq, show h - 2 + 2 = h from by omega, show h - 2 + 1 = h - 1 from by omega] at h0
  obtain ⟨⟨⟨a, b⟩, c⟩, d⟩ := h0
  exact ⟨a, fun t ht => by have := List.all_eq_true.1 b t (List.mem_range.2 ht); simpa using this, c, d⟩
theorem powN_lt {n : Nat} (hn : 1 ≤ n) : ∀ k, powN n k < n
  | 0 => Nat.mod_lt _ hn
  | _ + 1 => Nat.mod_lt _ hn
set_option maxRecDepth 100000 in
set_option maxHeartbeats 4000000 in
theorem walk (L : Int) (w : World) :
    Calls Try.prog 9 #[.int .i64 L] w fun e w' => e = .returned (.bool true) ∧ Bel w w' := by
  by_cases hE : eK L 0 = 0
  · obtain ⟨⟨h, h1, h16, hL⟩, -⟩ := eK_zero hE
    have HLq := Lib.hid hL
    by_cases h4 : 4 ≤ L
    · obtain ⟨o1, o2, o3, o4⟩ := orders (h := h) (by omega) h16
      have HO1 := Lib.hid o1
      obtain ⟨T, hT⟩ : ∃ T, T = timesN h 0 := ⟨_, rfl⟩
      rw [← hT] at o2 o3 o4
      have HT := Lib.hid hT
      obtain ⟨n, hn⟩ : ∃ n, n = 2 * h - 1 := ⟨_, rfl⟩
      rw [← hn] at o2
      have HO2 := Lib.hid o2
      have hnL : L - 1 = (n : Int) := by omega
      have hn3 : 3 ≤ n := by omega
      have hn31 : n ≤ 31 := by omega
      have HL2 := Lib.hid (show L - 2 = ((2 * (h - 1) : Nat) : Int) by omega)
      have hL32 : L ≤ 32 := by omega
      have hh2 : 2 ≤ h := by omega
      have h4' : ¬ L < 4 := by omega
      have hN2 : (2 : Int) % (n : Int) = ((powN n 0 : Nat) : Int) := by show _ = ((2 % n : Nat) : Int); rw [Int.natCast_emod]; rfl
      have HN : Hid (∀ k, (2 * ((powN n k : Nat) : Int)) % (n : Int) = ((powN n (k + 1) : Nat) : Int)) := fun k => by
        show _ = ((2 * powN n k % n : Nat) : Int)
        rw [Int.natCast_emod, Int.natCast_mul]
        rfl
      clear hE hL hT hn o1 o2
      go_enter Try.func9, Try.ntmps9
      go_wp2_with fail
      rw [HLq.out]
      refine (times_ok h 0 _ h1 h16 (by omega)).mono ?_
      rintro e w2 ⟨rfl, hb2⟩
      rw [← HLq.out, ← HT.out]
      go_wp2_with fail
      rw [HL2.out]
      refine (times_ok (h - 1) 1 _ (by omega) (by omega) (by omega)).mono ?_
      rintro e w3 ⟨rfl, hb3⟩
      rw [← HL2.out, ← HO1.out, ← HT.out]
      have hTT : ((T : Int) != (T : Int)) = false := by simp
      go_wp2
      go_quiet (fail)
      go_wp2
      go_loopw [7, 8] (fun nv pv wr => ∃ k : Nat, k + 1 ≤ T ∧ nv = .int .i64 ((k : Int) + 1) ∧ pv = .int .i64 ((powN n k : Nat) : Int) ∧ Bel w3 wr) (fun nv _ _ => T - (intOf nv).toNat)
      case atStart => exact ⟨0, by omega, by go_num, rfl, by (repeat (first | exact Bel.refl _ | assumption | refine Bel.drew ?_ | refine Bel.drewN ?_ _ | refine Bel.alloc ?_ _ | refine Bel.setCell ?_ (by first | omega | (simp; done) | (simp; omega) | (simp at *; omega)) _ | refine Bel.trans ?_ (by assumption)))⟩
      case round =>
        clear hN2
        obtain ⟨k, hk, rfl, rfl, hb⟩ := hrel
        have hlt := powN_lt (n := n) (by omega) k
        have hnx := HN.out k
        have hiff := HO2.out k (by omega)
        obtain ⟨p, hp⟩ : ∃ p, p = powN n k := ⟨_, rfl⟩
        rw [← hp] at hlt hnx hiff ⊢
        have HP := Lib.hid hp
        have hk40 : (k : Int) + 1 ≤ 40 := by omega
        by_cases hc : k + 1 < T
        · have hp1 : ((p : Int) != 1) = true := by
            have : p ≠ 1 := fun e => by have := hiff.1 e; omega
            simpa using (show ¬ (p : Int) = 1 by omega)
          have hp2 : ((p : Int) == 1) = false := by
            have : p ≠ 1 := fun e => by have := hiff.1 e; omega
            simpa using (show ¬ (p : Int) = 1 by omega)
          clear hiff hp
          go_wp2
          go_roundw
          case rel => exact ⟨k + 1, by omega, by go_num, congrArg (Value.int .i64) hnx, by (repeat (first | exact Bel.refl _ | assumption | refine Bel.drew ?_ | refine Bel.drewN ?_ _ | refine Bel.alloc ?_ _ | refine Bel.setCell ?_ (by first | omega | (simp; done) | (simp; omega) | (simp at *; omega)) _ | refine Bel.trans ?_ (by assumption)))⟩
          case measure => simp [intOf]; omega
        · have hp1 : p = 1 := hiff.2 (by omega)
          have hkT : (k : Int) + 1 = (T : Int) := by omega
          subst hp1
          clear hiff hp hnx hlt
          go_wp2_with fail
          refine (known_any _).mono ?_
          rintro e w4 ⟨rfl, hb4⟩
          go_wp2
          go_ret
          exact ⟨rfl, ((hb2.trans hb3).trans hb).trans hb4⟩
    · have h4' : L < 4 := by omega
      clear hE hL h4
      go_enter Try.func9, Try.ntmps9
      go_wp2_with fail
      rw [HLq.out]
      refine (times_ok h 0 _ h1 h16 (by omega)).mono ?_
      rintro e w2 ⟨rfl, hb2⟩
      rw [← HLq.out]
      generalize timesN h 0 = T
      go_wp2_with fail
      refine (known_any _).mono ?_
      rintro e w4 ⟨rfl, hb4⟩
      go_wp2
      go_ret
      exact ⟨rfl, hb2.trans hb4⟩
  · go_enter Try.func9, Try.ntmps9
    go_wp2_with fail
    refine (times_err L 0 _ hE).mono ?_
    rintro e w2 ⟨rfl, hw⟩
    subst hw
    go_wp2_with fail
    refine (known_any _).mono ?_
    rintro e w4 ⟨rfl, hb4⟩
    go_wp2
    go_ret
    exact ⟨rfl, hb4⟩



set_option maxRecDepth 100000 in
theorem lifted (os : Os) (started : os.Started) (H : Type) (enc : TypeId × Value → H) :
    ReturnsInHanded {} Try.checked os 9 .any (Rows.kneadOrdersSpec.pre6 enc Try.prog Try.f9 Rows.kneadOrdersRow.domain false) (Rows.kneadOrdersSpec.post enc Try.prog Try.f9 false true false false) := by
  refine returnsInHanded_of_change_sized (C := Try.checked) own started (by kernel_rfl) Try.func9
    (ChangeSpec.witness6 (enc := enc) (C := Try.checked) false ⟨#[], #[.int .i64 0], []⟩ 8 (by kernel_rfl) (by kernel_rfl) (by kernel_rfl) (by kernel_rfl)) ?_
  intro W base args ds gs before hval0 hW hcnd hsz0 _
  have hval : ∀ (j : Nat) t v, Try.f9.params[j]? = some t → args[j]? = some v → Value.okWide Try.prog W .any base t v := hval0
  have hsz : (DataW.weightsEach Try.prog (Try.f9.params.toList ++ Rows.kneadOrdersSpec.plain.varTypes Try.prog) (ds ++ gs)).all (· ≤ reachBytes) = true := hsz0
  have hW' := hW
  obtain ⟨p, q, hA0, hV, rfl, hfz, hnd⟩ := hW
  have hA : DataW.TrodAll enc Try.prog W 0 (fun _ => true) true Try.f9.params.toList args.toList ds p := hA0
  rw [Try.params9] at hA hval hsz
  obtain ⟨v0, vs0, d0, ds0, p0, q0, hargs, rfl, rfl, h0, r0⟩ := trodAll_cons hA
  obtain ⟨rfl, rfl, rfl⟩ := trodAll_nil r0
  obtain rfl : args = #[v0] := by cases args; simp_all
  obtain ⟨rfl, rfl⟩ := trodVars_none hV
  have k0 := h0
  have lt0 : ∀ x ∈ p0, x.block < W.heap.size := by obtain ⟨m, hm⟩ := k0; exact DataW.trod_lt m _ _ _ hm
  obtain ⟨x0, rfl, rfl, rfl, w0⟩ := open_int Try.underlying3 (hval 0 3 v0 rfl rfl) h0
  clear hA0 hval0
  refine (walk x0 W ).mono fun e W' ⟨he, bel⟩ => ?_
  subst he
  exact ⟨_, rfl, _, _, _, [], _, [], hW', trodAll_mk1 (shut_bool Try.underlying4 _), trodAll_cons_mk (shut_int Try.underlying3 w0) (trodAll_mk0), rfl, Below.frame bel _, fun h => by cases h⟩

theorem over : Rows.kneadOrdersRow.holds Try.pinned (OpenSpec.ofChange Rows.kneadOrdersSpec) :=
  OpenClaim.holds_of_wide 9 Try.f9 rfl rfl rfl rfl rfl rfl rfl ⟨rfl, rfl, rfl, rfl, rfl⟩ rfl rfl rfl rfl rfl (by kernel_rfl) Try.func9 (by kernel_rfl)
    (of_decide_eq_true (by kernel_rfl)) (by unfold Func.isWrapper; rw [if_neg (of_decide_eq_false (by kernel_rfl))]; exact ⟨rfl, rfl⟩)
    (fun os started H enc _ => lifted os started H enc)

/-- The statement. -/
theorem proved : Rows.KneadOrdersSaid := over
end Go.Proofs.Ythjjpmcefiddmaa.kneadOrders
