/-
  The statement KneadStepsSaid: for all numbers of lumps and places one out fold doubles the place, one in fold doubles it and adds 1, as the document says, and the known answers come out. No condition.
-/
import Derived.Test.YthjjpmcefiddmaaP
import Derived.Test.YthjjpmcefiddmaaM
namespace Go.Proofs.Ythjjpmcefiddmaa.kneadSteps
open Go.ChangeShapes Go.WideShapes Go.ChangeAt Go.RowKit Go.Joins

attribute [local go_sem] Oper.semAt_some

theorem emod_low {a m : Int} (h0 : 0 ≤ a) (h1 : a < m) : a % m = a := Int.emod_eq_of_lt h0 h1
theorem emod_once {a r m : Int} (h : a = r + m) (h0 : 0 ≤ r) (h1 : r < m) : a % m = r := by
  rw [h, Int.add_emod_right, Int.emod_eq_of_lt h0 h1]
theorem step_out {h q : Nat} (h1 : 1 ≤ h) (hlt : q < 2 * h - 1) : (2 * (q : Int)) % (((2 * h : Nat) : Int) - 1) = ((goN h 0 q : Nat) : Int) := by
  unfold goN
  by_cases hq : q < h
  · rw [if_pos hq, emod_low (by omega) (by omega)]; omega
  · rw [if_neg hq, emod_once (r := ((2 * (q - h) + 1 - 0 : Nat) : Int)) (by omega) (by omega) (by omega)]
theorem step_last {h q : Nat} (hq : q < 2 * h) (hlt : ¬ q < 2 * h - 1) : ((goN h 0 q : Nat) : Int) = ((2 * h : Nat) : Int) - 1 := by
  unfold goN
  by_cases h2 : q < h
  · rw [if_pos h2]; omega
  · rw [if_neg h2]; omega
theorem step_in {h q : Nat} (hq : q < 2 * h) : (2 * (q : Int) + 1) % (((2 * h : Nat) : Int) + 1) = ((goN h 1 q : Nat) : Int) := by
  unfold goN
  by_cases h2 : q < h
  · rw [if_pos h2, emod_low (by omega) (by omega)]; omega
  · rw [if_neg h2, emod_once (r := ((2 * (q - h) + 1 - 1 : Nat) : Int)) (by omega) (by omega) (by omega)]
set_option maxRecDepth 100000 in
set_option maxHeartbeats 4000000 in
theorem walk (L x : Int) (w : World) :
    Calls Try.prog 7 #[.int .i64 L, .int .i64 x] w fun e w' => e = .returned (.bool true) ∧ Bel w w' := by
  have eS : ∀ k : Int, k = 0 ∨ k = 1 → eL L [k] x = eP L [x] := fun k hk => by
    have h0 : eW [k] = 0 := eW_ok (by simp) (fun v hv => by simp at hv; subst hv; exact hk)
    unfold eL
    rw [h0]
    by_cases hz : eP L [x] = 0
    · rw [if_pos hz, hz]
    · rw [if_neg hz]
  by_cases hP : eP L [x] = 0
  · obtain ⟨hD, hx⟩ := eP_zero hP
    obtain ⟨h, h1, h16, hL⟩ := eD_zero hD
    obtain ⟨hx0, hxL⟩ := hx x (by simp)
    obtain ⟨q, hq⟩ : ∃ q : Nat, x = (q : Int) := ⟨x.toNat, by omega⟩
    have hqh : q < 2 * h := by omega
    have w0 : eW [0] = 0 := by decide
    have w1 : eW [1] = 0 := by decide
    have HP0 := Lib.hid (show eP ((2 * h : Nat) : Int) [(q : Int)] = 0 by rw [← hL, ← hq]; exact hP)
    have HB := Lib.hid (step_in hqh)
    rw [← hL, ← hq] at HB
    obtain ⟨a, ha⟩ : ∃ a, a = ((goW h [0] q : Nat) : Int) := ⟨_, rfl⟩
    obtain ⟨b, hb⟩ : ∃ b, b = ((goW h [1] q : Nat) : Int) := ⟨_, rfl⟩
    have HAq := Lib.hid ha; have HBq := Lib.hid hb
    have hB2 : (2 * x + 1) % (L + 1) = b := by rw [hb]; exact HB.out
    have hL2 : 2 ≤ L := by omega
    have hL3 : L ≤ 32 := by omega
    have HLq := Lib.hid hL; have HXq := Lib.hid hq
    by_cases hlt : x < L - 1
    · have hA2 : (2 * x) % (L - 1) = a := by rw [ha, hL, hq]; exact step_out h1 (by omega)
      clear hP hD hx hL hq ha hb HB
      go_enter Try.func7, Try.ntmps7
      go_wp2_with fail
      rw [HLq.out, HXq.out]
      refine (place_ok h (some ⟨_, 0, none⟩) 1 1 [0] q _ h1 h16 hqh (one_int (by go_simp) (by simp)) rfl w0 HP0.out).mono ?_
      rintro e w2 ⟨rfl, hb2⟩
      rw [← HLq.out, ← HXq.out, ← HAq.out]
      go_wp2_with fail
      rw [HLq.out, HXq.out]
      refine (place_ok h (some ⟨_, 0, none⟩) 1 1 [1] q _ h1 h16 hqh (one_int (by go_simp) (by simp)) rfl w1 HP0.out).mono ?_
      rintro e w3 ⟨rfl, hb3⟩
      rw [← HLq.out, ← HXq.out, ← HBq.out]
      go_wp2_with fail
      refine (known_any _).mono ?_
      rintro e w4 ⟨rfl, hb4⟩
      go_wp2
      go_ret
      exact ⟨rfl, ((((Bel.refl w).alloc _).trans hb2).alloc _ |>.trans hb3).trans hb4⟩
    · have hA3 : a = L - 1 := by rw [ha, hL]; exact step_last hqh (by omega)
      have HA3 := Lib.hid hA3
      clear hP hD hx hL hq ha hb HB hA3
      go_enter Try.func7, Try.ntmps7
      go_wp2_with fail
      rw [HLq.out, HXq.out]
      refine (place_ok h (some ⟨_, 0, none⟩) 1 1 [0] q _ h1 h16 hqh (one_int (by go_simp) (by simp)) rfl w0 HP0.out).mono ?_
      rintro e w2 ⟨rfl, hb2⟩
      rw [← HLq.out, ← HXq.out, ← HAq.out]
      go_wp2_with fail
      rw [HLq.out, HXq.out]
      refine (place_ok h (some ⟨_, 0, none⟩) 1 1 [1] q _ h1 h16 hqh (one_int (by go_simp) (by simp)) rfl w1 HP0.out).mono ?_
      rintro e w3 ⟨rfl, hb3⟩
      rw [← HLq.out, ← HXq.out, ← HBq.out, HA3.out]
      go_wp2_with fail
      refine (known_any _).mono ?_
      rintro e w4 ⟨rfl, hb4⟩
      go_wp2
      go_ret
      exact ⟨rfl, ((((Bel.refl w).alloc _).trans hb2).alloc _ |>.trans hb3).trans hb4⟩
  · have E0 := Lib.hid (eS 0 (.inl rfl)); have E1 := Lib.hid (eS 1 (.inr rfl))
    have hN0 : eL L [0] x ≠ 0 := by rw [E0.out]; exact hP
    have hN1 : eL L [1] x ≠ 0 := by rw [E1.out]; exact hP
    have HN0 := Lib.hid hN0; have HN1 := Lib.hid hN1
    obtain ⟨y, hy⟩ : ∃ y, y = eP L [x] := ⟨_, rfl⟩
    have hy0 : (y != 0) = true := by rw [hy]; simpa using hP
    have hyy : (y == y) = true := by simp
    rw [← hy] at E0 E1
    clear eS hP hN0 hN1 hy
    go_enter Try.func7, Try.ntmps7
    go_wp2_with fail
    refine (place_err L (some ⟨_, 0, none⟩) 1 1 [0] x _ (one_int (by go_simp) (by simp)) rfl (by unfold maxLen; omega) HN0.out).mono ?_
    rintro e w2 ⟨rfl, hb2⟩
    rw [E0.out]
    go_wp2_with fail
    refine (place_err L (some ⟨_, 0, none⟩) 1 1 [1] x _ (one_int (by go_simp) (by simp)) rfl (by unfold maxLen; omega) HN1.out).mono ?_
    rintro e w3 ⟨rfl, hb3⟩
    rw [E1.out]
    go_wp2_with fail
    refine (known_any _).mono ?_
    rintro e w4 ⟨rfl, hb4⟩
    go_wp2
    go_ret
    exact ⟨rfl, ((((Bel.refl w).alloc _).trans hb2).alloc _ |>.trans hb3).trans hb4⟩



set_option maxRecDepth 100000 in
theorem lifted (os : Os) (started : os.Started) (H : Type) (enc : TypeId × Value → H) :
    ReturnsInHanded {} Try.checked os 7 .any (Rows.kneadStepsSpec.pre6 enc Try.prog Try.f7 Rows.kneadStepsRow.domain false) (Rows.kneadStepsSpec.post enc Try.prog Try.f7 false true false false) := by
  refine returnsInHanded_of_change_sized (C := Try.checked) own started (by kernel_rfl) Try.func7
    (ChangeSpec.witness6 (enc := enc) (C := Try.checked) false ⟨#[], #[.int .i64 0, .int .i64 0], []⟩ 8 (by kernel_rfl) (by kernel_rfl) (by kernel_rfl) (by kernel_rfl)) ?_
  intro W base args ds gs before hval0 hW hcnd hsz0 _
  have hval : ∀ (j : Nat) t v, Try.f7.params[j]? = some t → args[j]? = some v → Value.okWide Try.prog W .any base t v := hval0
  have hsz : (DataW.weightsEach Try.prog (Try.f7.params.toList ++ Rows.kneadStepsSpec.plain.varTypes Try.prog) (ds ++ gs)).all (· ≤ reachBytes) = true := hsz0
  have hW' := hW
  obtain ⟨p, q, hA0, hV, rfl, hfz, hnd⟩ := hW
  have hA : DataW.TrodAll enc Try.prog W 0 (fun _ => true) true Try.f7.params.toList args.toList ds p := hA0
  rw [Try.params7] at hA hval hsz
  obtain ⟨v0, vs0, d0, ds0, p0, q0, hargs, rfl, rfl, h0, r0⟩ := trodAll_cons hA
  obtain ⟨v1, vs1, d1, ds1, p1, q1, rfl, rfl, rfl, h1, r1⟩ := trodAll_cons r0
  obtain ⟨rfl, rfl, rfl⟩ := trodAll_nil r1
  obtain rfl : args = #[v0, v1] := by cases args; simp_all
  obtain ⟨rfl, rfl⟩ := trodVars_none hV
  have k0 := h0
  have lt0 : ∀ x ∈ p0, x.block < W.heap.size := by obtain ⟨m, hm⟩ := k0; exact DataW.trod_lt m _ _ _ hm
  have k1 := h1
  have lt1 : ∀ x ∈ p1, x.block < W.heap.size := by obtain ⟨m, hm⟩ := k1; exact DataW.trod_lt m _ _ _ hm
  obtain ⟨x0, rfl, rfl, rfl, w0⟩ := open_int Try.underlying3 (hval 0 3 v0 rfl rfl) h0
  obtain ⟨x1, rfl, rfl, rfl, w1⟩ := open_int Try.underlying3 (hval 1 3 v1 rfl rfl) h1
  clear hA0 hval0
  refine (walk x0 x1 W ).mono fun e W' ⟨he, bel⟩ => ?_
  subst he
  exact ⟨_, rfl, _, _, _, [], _, [], hW', trodAll_mk1 (shut_bool Try.underlying4 _), trodAll_cons_mk (shut_int Try.underlying3 w0) (trodAll_cons_mk (shut_int Try.underlying3 w1) (trodAll_mk0)), rfl, Below.frame bel _, fun h => by cases h⟩

theorem over : Rows.kneadStepsRow.holds Try.pinned (OpenSpec.ofChange Rows.kneadStepsSpec) :=
  OpenClaim.holds_of_wide 7 Try.f7 rfl rfl rfl rfl rfl rfl rfl ⟨rfl, rfl, rfl, rfl, rfl⟩ rfl rfl rfl rfl rfl (by kernel_rfl) Try.func7 (by kernel_rfl)
    (of_decide_eq_true (by kernel_rfl)) (by unfold Func.isWrapper; rw [if_neg (of_decide_eq_false (by kernel_rfl))]; exact ⟨rfl, rfl⟩)
    (fun os started H enc _ => lifted os started H enc)

/-- The statement. -/
theorem proved : Rows.KneadStepsSaid := over
end Go.Proofs.Ythjjpmcefiddmaa.kneadSteps
