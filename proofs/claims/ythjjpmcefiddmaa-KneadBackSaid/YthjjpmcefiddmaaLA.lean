/-
  The statement KneadBackSaid: for all lists one fold and its unfolding leave a dough as it is, both folds have the same error, the list stays as it was in its spare cells, too, and the known answers come out. No condition.
-/
import Derived.Test.YthjjpmcefiddmaaM
namespace Go.Proofs.Ythjjpmcefiddmaa.kneadBack
open Go.ChangeShapes Go.WideShapes Go.ChangeAt Go.RowKit Go.Joins

theorem self_list {h : Nat} {l : List Int} (hl : l.length = 2 * h) : (List.range (2 * h)).map (fun q => l.getD q 0) = l := byF_id (g := fun q => q) hl fun _ _ => rfl
theorem back {w : World} {g h k : Nat} {l : List Int} (hk : k ≤ 1) (hl : l.length = 2 * h) (hr : Row w g (2 * h) (2 * h) (fun q => l.getD (unN h k (goN h k q)) 0)) : Ints w (some ⟨g, 0, none⟩) l := by
  have h1 := (hr.congr (f' := fun q => l.getD q 0) fun q hq => by rw [un_go hk hq]).ints
  rwa [self_list hl] at h1
set_option maxRecDepth 100000 in
set_option maxHeartbeats 4000000 in
theorem inner (A : Option Addr) (n c : Nat) (l : List Int) (w : World) (hR : Ints w A l) (hn : l.length = n) (hc : n ≤ c) (hmax : n ≤ maxLen) :
    Calls Try.prog 19 #[.slice A n c] w fun e w' => e = .returned (.bool true) ∧ Bel w w' := by
  by_cases h100 : 100 < n
  · have HL := Lib.hid (decide_eq_true h100)
    go_enter Try.func19, Try.ntmps19
    go_wp2_with fail
    refine (long_any A n c _).mono ?_
    rintro e w1 ⟨rfl, rfl⟩
    rw [HL.out]
    go_wp2_with fail
    refine (known_any _).mono ?_
    rintro e w9 ⟨rfl, hb9⟩
    go_wp2
    go_ret
    exact ⟨rfl, hb9⟩
  · have HL := Lib.hid (decide_eq_false h100)
    clear h100
    by_cases hE : eD (n : Int) = 0
    · obtain ⟨h, h1, h16, h3⟩ := eD_zero hE
      obtain rfl : n = 2 * h := by omega
      clear h3 hE
      obtain ⟨b, o, hA, hS⟩ := Seg.of_ints hR (by omega)
      rw [hn] at hS
      subst hA
      have Hn := Lib.hid hn
      clear hn
      go_enter Try.func19, Try.ntmps19
      go_wp2_with fail
      refine (long_any _ (2 * h) c _).mono ?_
      rintro e w1 ⟨rfl, hw1⟩
      subst hw1
      rw [HL.out]
      go_wp2_with fail
      refine (kOut_ok b o h c _ _ hS h1 h16 hc).mono ?_
      rintro e w2 ⟨g2, rfl, hg2, hb2, hr2⟩
      go_wp2_with fail
      refine (kIn_ok b o h c _ _ (hS.bel hb2) h1 h16 hc).mono ?_
      rintro e w3 ⟨g3, rfl, hg3, hb3, hr3⟩
      go_wp2_with fail
      refine (kUnOut_ok g2 0 h (2 * h) _ _ (Seg.of_row (hr2.bel hb3)) h1 h16 (Nat.le_refl _)).mono ?_
      rintro e w4 ⟨g4, rfl, hg4, hb4, hr4⟩
      go_wp2_with fail
      refine (kUnIn_ok g3 0 h (2 * h) _ _ (Seg.of_row (hr3.bel hb4)) h1 h16 (Nat.le_refl _)).mono ?_
      rintro e w5 ⟨g5, rfl, hg5, hb5, hr5⟩
      have hI4 := back (by omega) Hn.out hr4
      have hI5 := back (by omega) Hn.out hr5
      have hb15 := (hb2.trans hb3).trans (hb4.trans hb5)
      go_wp2_with fail
      refine (sameInts_any (some ⟨g4, 0, none⟩) (some ⟨b, o, none⟩) (2 * h) (2 * h) (2 * h) c l _ (hI4.bel hb5) (hR.bel hb15) Hn.out Hn.out hmax).mono ?_
      rintro e w6 ⟨rfl, hb6⟩
      go_wp2_with fail
      refine (sameInts_any (some ⟨g5, 0, none⟩) (some ⟨b, o, none⟩) (2 * h) (2 * h) (2 * h) c l _ (hI5.bel hb6) (hR.bel (hb15.trans hb6)) Hn.out Hn.out hmax).mono ?_
      rintro e w7 ⟨rfl, hb7⟩
      go_wp2_with fail
      refine (known_any _).mono ?_
      rintro e w8 ⟨rfl, hb8⟩
      go_wp2
      go_ret
      exact ⟨rfl, ((hb15.trans hb6).trans hb7).trans hb8⟩
    · clear hn
      go_enter Try.func19, Try.ntmps19
      go_wp2_with fail
      refine (long_any _ n c _).mono ?_
      rintro e w1 ⟨rfl, hw1⟩
      subst hw1
      rw [HL.out]
      go_wp2_with fail
      refine (kOut_err A n c _ hE).mono ?_
      rintro e w2 ⟨rfl, hb2⟩
      go_wp2_with fail
      refine (kIn_err A n c _ hE).mono ?_
      rintro e w3 ⟨rfl, hb3⟩
      go_wp2_with fail
      refine (known_any _).mono ?_
      rintro e w4 ⟨rfl, hb4⟩
      go_wp2
      go_ret
      exact ⟨rfl, (hb2.trans hb3).trans hb4⟩

set_option maxRecDepth 100000 in
set_option maxHeartbeats 1000000 in
theorem walk (A0 : Option Addr) (n0 c0 : Nat) (zs0 : List Int) (w : World) (hx0 : ArgI w A0 n0 c0 zs0) :
    Calls Try.prog 4 #[.slice A0 n0 c0] w fun e w' => e = .returned (.bool true) ∧ Bel w w' := by
  obtain ⟨y0, z0, m0⟩ := hx0.els
  go_enter Try.func4, Try.ntmps4
  go_wp2_with fail
  refine (keepInts_any A0 n0 c0 zs0 _ (hx0.ints.bel (Bel.refl w)) hx0.len hx0.le hx0.nil hx0.reach).mono ?_
  rintro e k0 ⟨B0, q0, d0, rfl, hq0, hk0, hI0, hlo0⟩
  have HQ0 := Lib.hid hq0; clear hq0 hlo0
  have hc0 : Bel w k0 := (Bel.refl w).trans hk0
  go_wp2_with fail
  refine (inner A0 n0 c0 _ _ (y0.bel hc0) z0 hx0.le m0).mono ?_
  rintro e w4 ⟨rfl, hb4⟩
  have hw4 : Bel w w4 := hc0.trans hb4
  go_wp2_with fail
  refine (keptInts_any B0 A0 q0 d0 n0 c0 zs0 _ (hI0.bel hb4) (hx0.ints.bel hw4) HQ0.out.symm hx0.len hx0.le hx0.nil (reachN_le hx0.reach (by omega)).1).mono ?_
  rintro e u0 ⟨rfl, hu0⟩
  have hv0 := hw4.trans hu0
  go_wp2
  go_ret
  exact ⟨rfl, hv0⟩

set_option maxRecDepth 100000 in
theorem lifted (os : Os) (started : os.Started) (H : Type) (enc : TypeId × Value → H) :
    ReturnsInHanded {} Try.checked os 4 .any (Rows.kneadBackSpec.pre6 enc Try.prog Try.f4 Rows.kneadBackRow.domain false) (Rows.kneadBackSpec.post enc Try.prog Try.f4 false true false false) := by
  refine returnsInHanded_of_change_sized (C := Try.checked) own started (by kernel_rfl) Try.func4
    (ChangeSpec.witness6 (enc := enc) (C := Try.checked) false ⟨#[], #[.slice none 0 0], []⟩ 8 (by kernel_rfl) (by kernel_rfl) (by kernel_rfl) (by kernel_rfl)) ?_
  intro W base args ds gs before hval0 hW hcnd hsz0 _
  have hval : ∀ (j : Nat) t v, Try.f4.params[j]? = some t → args[j]? = some v → Value.okWide Try.prog W .any base t v := hval0
  have hsz : (DataW.weightsEach Try.prog (Try.f4.params.toList ++ Rows.kneadBackSpec.plain.varTypes Try.prog) (ds ++ gs)).all (· ≤ reachBytes) = true := hsz0
  have hW' := hW
  obtain ⟨p, q, hA0, hV, rfl, hfz, hnd⟩ := hW
  have hA : DataW.TrodAll enc Try.prog W 0 (fun _ => true) true Try.f4.params.toList args.toList ds p := hA0
  rw [Try.params4] at hA hval hsz
  obtain ⟨v0, vs0, d0, ds0, p0, q0, hargs, rfl, rfl, h0, r0⟩ := trodAll_cons hA
  obtain ⟨rfl, rfl, rfl⟩ := trodAll_nil r0
  obtain rfl : args = #[v0] := by cases args; simp_all
  obtain ⟨rfl, rfl⟩ := trodVars_none hV
  have k0 := h0
  have lt0 : ∀ x ∈ p0, x.block < W.heap.size := by obtain ⟨m, hm⟩ := k0; exact DataW.trod_lt m _ _ _ hm
  have hr0 : ∀ k ∈ d0.weights Try.prog 22, k ≤ reachN := fun k hk => by rw [← reach_eq]; simpa using List.all_eq_true.1 hsz k (DataW.weights_mem_each (j := 0) rfl rfl k hk)
  obtain ⟨A0, n0, c0, zs0, rfl, a0⟩ := open_argI (hval 0 22 v0 rfl rfl) h0 hr0
  clear hA0 hval0
  refine (walk A0 n0 c0 zs0 W a0).mono fun e W' ⟨he, bel⟩ => ?_
  subst he
  exact ⟨_, rfl, _, _, _, [], _, [], hW', trodAll_mk1 (shut_bool Try.underlying4 _), trodAll_cons_mk (Below.trod laidOut (by kernel_rfl) (of_decide_eq_true (by kernel_rfl)) k0 bel lt0) (trodAll_mk0), rfl, Below.frame bel _, fun h => by cases h⟩

theorem over : Rows.kneadBackRow.holds Try.pinned (OpenSpec.ofChange Rows.kneadBackSpec) :=
  OpenClaim.holds_of_wide 4 Try.f4 rfl rfl rfl rfl rfl rfl rfl ⟨rfl, rfl, rfl, rfl, rfl⟩ rfl rfl rfl rfl rfl (by kernel_rfl) Try.func4 (by kernel_rfl)
    (of_decide_eq_true (by kernel_rfl)) (by unfold Func.isWrapper; rw [if_neg (of_decide_eq_false (by kernel_rfl))]; exact ⟨rfl, rfl⟩)
    (fun os started H enc _ => lifted os started H enc)

/-- The statement. -/
theorem proved : Rows.KneadBackSaid := over
end Go.Proofs.Ythjjpmcefiddmaa.kneadBack
