/-
  The statement JudgeEnoughSaid: for all states and numbers Enough answers as the document says, more questions are enough, too, and the known answers come out. No condition.
-/
import Derived.Test.YtogeackcnmeooaaJN
namespace Go.Proofs.Ytogeackcnmeooaa.judgeEnough
open Go.ChangeShapes Go.WideShapes Go.ChangeAt Go.RowKit Go.Joins

set_option maxRecDepth 100000 in
set_option maxHeartbeats 2000000 in
theorem walk (a b q : Int) (w : World) : Calls Try.prog 9 #[.agg #[.int .i64 a, .int .i64 b], .int .i64 q] w fun e w' => e = .returned (.bool true) ∧ Bel w w' := by
  by_cases h : inS a b ∧ 0 ≤ q ∧ q ≤ 12
  · obtain ⟨h1, h2, h3⟩ := h
    obtain ⟨a, b, rfl, rfl, ha, hb⟩ := inS_nat h1
    obtain ⟨q, rfl⟩ := Int.eq_ofNat_of_zero_le h2
    have hq : q ≤ 12 := by omega
    clear h1 h2 h3
    cases he : en q a b
    · have HE := Lib.hid he
      clear he
      go_enter Try.func9, Try.ntmps9
      go_wp2_with fail
      refine (rEnough_ok a b q _ ha hb hq).mono ?_
      rintro e w1 ⟨rfl, hb1⟩
      rw [HE.out]
      obtain ⟨c1, c2⟩ := box2 hb1
      go_wp2_with fail
      refine (wEnough_ok a b q _ ha hb hq).mono ?_
      rintro e w2 ⟨rfl, hb2⟩
      rw [HE.out]
      obtain ⟨c3, c4⟩ := box2 (hb1.trans hb2)
      clear c1 c2
      go_wp2_with (go_at_call 26; refine (known_any _).mono ?_; rintro e w7 ⟨rfl, hb7⟩)
      go_ret
      exact ⟨rfl, by (repeat (first | exact Bel.refl _ | assumption | refine Bel.drew ?_ | refine Bel.drewN ?_ _ | refine Bel.alloc ?_ _ | refine Bel.setCell ?_ (by first | omega | (simp; done) | (simp; omega) | (simp at *; omega)) _ | refine Bel.trans ?_ (by assumption)))⟩
    · have HE := Lib.hid he
      have HU := Lib.hid (en_up he)
      clear he
      by_cases h12 : q < 12
      · have hqi : (q : Int) < 12 := by omega
        go_enter Try.func9, Try.ntmps9
        go_wp2_with fail
        refine (rEnough_ok a b q _ ha hb hq).mono ?_
        rintro e w1 ⟨rfl, hb1⟩
        rw [HE.out]
        obtain ⟨c1, c2⟩ := box2 hb1
        go_wp2_with fail
        refine (wEnough_ok a b q _ ha hb hq).mono ?_
        rintro e w2 ⟨rfl, hb2⟩
        rw [HE.out]
        obtain ⟨c3, c4⟩ := box2 (hb1.trans hb2)
        clear c1 c2
        go_wp2_with fail
        refine (wEnough_ok a b (q + 1) _ ha hb (by omega)).mono ?_
        rintro e w3 ⟨rfl, hb3⟩
        rw [HU.out]
        go_wp2_with (go_at_call 26; refine (known_any _).mono ?_; rintro e w7 ⟨rfl, hb7⟩)
        go_ret
        exact ⟨rfl, by (repeat (first | exact Bel.refl _ | assumption | refine Bel.drew ?_ | refine Bel.drewN ?_ _ | refine Bel.alloc ?_ _ | refine Bel.setCell ?_ (by first | omega | (simp; done) | (simp; omega) | (simp at *; omega)) _ | refine Bel.trans ?_ (by assumption)))⟩
      · obtain rfl : q = 12 := by omega
        go_enter Try.func9, Try.ntmps9
        go_wp2_with fail
        refine (rEnough_ok a b 12 _ ha hb hq).mono ?_
        rintro e w1 ⟨rfl, hb1⟩
        rw [HE.out]
        obtain ⟨c1, c2⟩ := box2 hb1
        go_wp2_with fail
        refine (wEnough_ok a b 12 _ ha hb hq).mono ?_
        rintro e w2 ⟨rfl, hb2⟩
        rw [HE.out]
        obtain ⟨c3, c4⟩ := box2 (hb1.trans hb2)
        clear c1 c2
        go_wp2_with (go_at_call 26; refine (known_any _).mono ?_; rintro e w7 ⟨rfl, hb7⟩)
        go_ret
        exact ⟨rfl, by (repeat (first | exact Bel.refl _ | assumption | refine Bel.drew ?_ | refine Bel.drewN ?_ _ | refine Bel.alloc ?_ _ | refine Bel.setCell ?_ (by first | omega | (simp; done) | (simp; omega) | (simp at *; omega)) _ | refine Bel.trans ?_ (by assumption)))⟩
  · have HH := Lib.hid h
    clear h
    go_enter Try.func9, Try.ntmps9
    go_wp2_with fail
    refine (rEnough_err a b q _ HH.out).mono ?_
    rintro e w1 ⟨rfl, hb1⟩
    obtain ⟨c1, c2⟩ := box2 hb1
    go_wp2_with fail
    refine (wEnough_err a b q _ HH.out).mono ?_
    rintro e w2 ⟨rfl, hb2⟩
    obtain ⟨c3, c4⟩ := box2 (hb1.trans hb2)
    clear c1 c2
    go_wp2_with (go_at_call 26; refine (known_any _).mono ?_; rintro e w7 ⟨rfl, hb7⟩)
    go_ret
    exact ⟨rfl, by (repeat (first | exact Bel.refl _ | assumption | refine Bel.drew ?_ | refine Bel.drewN ?_ _ | refine Bel.alloc ?_ _ | refine Bel.setCell ?_ (by first | omega | (simp; done) | (simp; omega) | (simp at *; omega)) _ | refine Bel.trans ?_ (by assumption)))⟩

set_option maxRecDepth 100000 in
theorem lifted (os : Os) (started : os.Started) (H : Type) (enc : TypeId × Value → H) :
    ReturnsInHanded {} Try.checked os 9 .any (Rows.judgeEnoughSpec.pre6 enc Try.prog Try.f9 Rows.judgeEnoughRow.domain false) (Rows.judgeEnoughSpec.post enc Try.prog Try.f9 false true false false) := by
  refine returnsInHanded_of_change_sized (C := Try.checked) own started (by kernel_rfl) Try.func9
    (ChangeSpec.witness6 (enc := enc) (C := Try.checked) false ⟨#[], #[.agg #[.int .i64 0, .int .i64 0], .int .i64 0], []⟩ 8 (by kernel_rfl) (by kernel_rfl) (by kernel_rfl) (by kernel_rfl)) ?_
  intro W base args ds gs before hval0 hW hcnd hsz0 _
  have hval : ∀ (j : Nat) t v, Try.f9.params[j]? = some t → args[j]? = some v → Value.okWide Try.prog W .any base t v := hval0
  have hsz : (DataW.weightsEach Try.prog (Try.f9.params.toList ++ Rows.judgeEnoughSpec.plain.varTypes Try.prog) (ds ++ gs)).all (· ≤ reachBytes) = true := hsz0
  have hW' := hW
  obtain ⟨p, q, hA0, hV, rfl, hfz, hnd⟩ := hW
  have hA : DataW.TrodAll enc Try.prog W 0 (fun _ => true) true Try.f9.params.toList args.toList ds p := hA0
  rw [Try.params9] at hA hval hsz
  obtain ⟨v0, vs0, d0, ds0, p0, q0, hargs, rfl, rfl, h0, r0⟩ := trodAll_cons hA
  obtain ⟨v1, vs1, d1, ds1, p1, q1, rfl, rfl, rfl, h1, r1⟩ := trodAll_cons r0
  obtain ⟨rfl, rfl, rfl⟩ := trodAll_nil r1
  obtain rfl : args = #[v0, v1] := by cases args; simp_all
  obtain ⟨rfl, rfl⟩ := trodVars_none hV
  have k0 := h0
  have lt0 : ∀ x ∈ p0, x.block < W.heap.size := by obtain ⟨m, hm⟩ := k0; exact DataW.trod_lt m _ _ _ hm
  have k1 := h1
  have lt1 : ∀ x ∈ p1, x.block < W.heap.size := by obtain ⟨m, hm⟩ := k1; exact DataW.trod_lt m _ _ _ hm
  obtain ⟨x0, y0, rfl⟩ := open_state (hval 0 28 v0 rfl rfl) h0
  obtain ⟨x1, rfl, rfl, rfl, w1⟩ := open_int Try.underlying3 (hval 1 3 v1 rfl rfl) h1
  clear hA0 hval0
  refine (walk x0 y0 x1 W ).mono fun e W' ⟨he, bel⟩ => ?_
  subst he
  exact ⟨_, rfl, _, _, _, [], _, [], hW', trodAll_mk1 (shut_bool Try.underlying4 _), trodAll_cons_mk (Below.trod laidOut (by kernel_rfl) (of_decide_eq_true (by kernel_rfl)) k0 bel lt0) (trodAll_cons_mk (shut_int Try.underlying3 w1) (trodAll_mk0)), rfl, Below.frame bel _, fun h => by cases h⟩

theorem over : Rows.judgeEnoughRow.holds Try.pinned (OpenSpec.ofChange Rows.judgeEnoughSpec) :=
  OpenClaim.holds_of_wide 9 Try.f9 rfl rfl rfl rfl rfl rfl rfl ⟨rfl, rfl, rfl, rfl, rfl⟩ rfl rfl rfl rfl rfl (by kernel_rfl) Try.func9 (by kernel_rfl)
    (of_decide_eq_true (by kernel_rfl)) (by unfold Func.isWrapper; rw [if_neg (of_decide_eq_false (by kernel_rfl))]; exact ⟨rfl, rfl⟩)
    (fun os started H enc _ => lifted os started H enc)

/-- The statement. -/
theorem proved : Rows.JudgeEnoughSaid := over
end Go.Proofs.Ytogeackcnmeooaa.judgeEnough
