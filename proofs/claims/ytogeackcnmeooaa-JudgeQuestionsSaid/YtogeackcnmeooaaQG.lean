/-
  The statement JudgeQuestionsSaid: for all states and numbers a question is returned where questions are enough, it is right, and the known answers come out. No condition.
-/
import Derived.Test.YtogeackcnmeooaaJQ
namespace Go.Proofs.Ytogeackcnmeooaa.judgeQuestions
open Go.ChangeShapes Go.WideShapes Go.ChangeAt Go.RowKit Go.Joins

set_option maxRecDepth 100000 in
set_option maxHeartbeats 2000000 in
theorem walk (a b q : Int) (w : World) : Calls Try.prog 13 #[.agg #[.int .i64 a, .int .i64 b], .int .i64 q] w fun e w' => e = .returned (.bool true) ∧ Bel w w' := by
  obtain ⟨v, hv⟩ : ∃ v, v = (decide (inS a b ∧ 0 ≤ q ∧ q ≤ 12 ∧ 1 < a + b) && en q.toNat a.toNat b.toNat) := ⟨_, rfl⟩
  obtain ⟨x0, hx0⟩ : ∃ x0, x0 = errQ a b q := ⟨_, rfl⟩
  have HV := Lib.hid hv; have HX := Lib.hid hx0
  clear hv hx0
  cases v
  · go_enter Try.func13, Try.ntmps13
    go_wp2_with fail
    refine (rHas_any a b q _).mono ?_
    rintro e w1 ⟨rfl, hb1⟩
    rw [← HV.out, ← HX.out]
    obtain ⟨c1, c2⟩ := box2 hb1
    go_wp2_with fail
    refine (quest_any a b q _).mono ?_
    rintro e w2 ⟨x, y, ok, rfl, hb2, hok, hk1, hk2⟩
    rw [← HV.out] at hok
    subst hok
    obtain ⟨rfl, rfl⟩ := hk2 rfl
    rw [← HX.out]
    clear hk1 hk2
    obtain ⟨c3, c4⟩ := box2 (hb1.trans hb2)
    clear c1 c2
    go_wp2_with (go_at_call 26; refine (known_any _).mono ?_; rintro e w7 ⟨rfl, hb7⟩)
    go_ret
    exact ⟨rfl, by (repeat (first | exact Bel.refl _ | assumption | refine Bel.drew ?_ | refine Bel.drewN ?_ _ | refine Bel.alloc ?_ _ | refine Bel.setCell ?_ (by first | omega | (simp; done) | (simp; omega) | (simp at *; omega)) _ | refine Bel.trans ?_ (by assumption)))⟩
  · go_enter Try.func13, Try.ntmps13
    go_wp2_with fail
    refine (rHas_any a b q _).mono ?_
    rintro e w1 ⟨rfl, hb1⟩
    rw [← HV.out, ← HX.out]
    obtain ⟨c1, c2⟩ := box2 hb1
    go_wp2_with fail
    refine (quest_any a b q _).mono ?_
    rintro e w2 ⟨x, y, ok, rfl, hb2, hok, hk1, hk2⟩
    rw [← HV.out] at hok
    subst hok
    have HK := Lib.hid (hk1 rfl)
    rw [← HX.out]
    clear hk1 hk2
    obtain ⟨c3, c4⟩ := box2 (hb1.trans hb2)
    clear c1 c2
    go_wp2_with fail
    refine (rCheck_any a b x y q _).mono ?_
    rintro e w3 ⟨rfl, hb3⟩
    rw [HK.out]
    go_wp2_with (go_at_call 26; refine (known_any _).mono ?_; rintro e w7 ⟨rfl, hb7⟩)
    go_ret
    exact ⟨rfl, by (repeat (first | exact Bel.refl _ | assumption | refine Bel.drew ?_ | refine Bel.drewN ?_ _ | refine Bel.alloc ?_ _ | refine Bel.setCell ?_ (by first | omega | (simp; done) | (simp; omega) | (simp at *; omega)) _ | refine Bel.trans ?_ (by assumption)))⟩

set_option maxRecDepth 100000 in
theorem lifted (os : Os) (started : os.Started) (H : Type) (enc : TypeId × Value → H) :
    ReturnsInHanded {} Try.checked os 13 .any (Rows.judgeQuestionsSpec.pre6 enc Try.prog Try.f13 Rows.judgeQuestionsRow.domain false) (Rows.judgeQuestionsSpec.post enc Try.prog Try.f13 false true false false) := by
  refine returnsInHanded_of_change_sized (C := Try.checked) own started (by kernel_rfl) Try.func13
    (ChangeSpec.witness6 (enc := enc) (C := Try.checked) false ⟨#[], #[.agg #[.int .i64 0, .int .i64 0], .int .i64 0], []⟩ 8 (by kernel_rfl) (by kernel_rfl) (by kernel_rfl) (by kernel_rfl)) ?_
  intro W base args ds gs before hval0 hW hcnd hsz0 _
  have hval : ∀ (j : Nat) t v, Try.f13.params[j]? = some t → args[j]? = some v → Value.okWide Try.prog W .any base t v := hval0
  have hsz : (DataW.weightsEach Try.prog (Try.f13.params.toList ++ Rows.judgeQuestionsSpec.plain.varTypes Try.prog) (ds ++ gs)).all (· ≤ reachBytes) = true := hsz0
  have hW' := hW
  obtain ⟨p, q, hA0, hV, rfl, hfz, hnd⟩ := hW
  have hA : DataW.TrodAll enc Try.prog W 0 (fun _ => true) true Try.f13.params.toList args.toList ds p := hA0
  rw [Try.params13] at hA hval hsz
  obtain ⟨v0, vs0, d0, ds0, p0, q0, hargs, rfl, rfl, h0, r0⟩ := trodAll_cons hA
  obtain ⟨v1, vs1, d1, ds1, p1, q1, rfl, rfl, rfl, h1, r1⟩ := trodAll_cons r0
  obtain ⟨rfl, rfl, rfl⟩ := trodAll_nil r1
  obtain rfl : args = #[v0, v1] := by cases args; simp_all
  obtain ⟨rfl, rfl⟩ := trodVars_none hV
  have k0 := h0
  have lt0 : ∀ x ∈ p0, x.block < W.heap.size := by obtain ⟨m, hm⟩ := k0; exact DataW.trod_lt m _ _ _ hm
  have k1 := h1
  have lt1 : ∀ x ∈ p1, x.block < W.heap.size := by obtain ⟨m, hm⟩ := k1; exact DataW.trod_lt m _ _ _ hm
  obtain ⟨x0, y0, rfl⟩ := open_state (hval 0 28 v0 rfl rfl) h0
  obtain ⟨x1, rfl, rfl, rfl, w1⟩ := open_int Try.underlying3 (hval 1 3 v1 rfl rfl) h1
  clear hA0 hval0
  refine (walk x0 y0 x1 W ).mono fun e W' ⟨he, bel⟩ => ?_
  subst he
  exact ⟨_, rfl, _, _, _, [], _, [], hW', trodAll_mk1 (shut_bool Try.underlying4 _), trodAll_cons_mk (Below.trod laidOut (by kernel_rfl) (of_decide_eq_true (by kernel_rfl)) k0 bel lt0) (trodAll_cons_mk (shut_int Try.underlying3 w1) (trodAll_mk0)), rfl, Below.frame bel _, fun h => by cases h⟩

theorem over : Rows.judgeQuestionsRow.holds Try.pinned (OpenSpec.ofChange Rows.judgeQuestionsSpec) :=
  OpenClaim.holds_of_wide 13 Try.f13 rfl rfl rfl rfl rfl rfl rfl ⟨rfl, rfl, rfl, rfl, rfl⟩ rfl rfl rfl rfl rfl (by kernel_rfl) Try.func13 (by kernel_rfl)
    (of_decide_eq_true (by kernel_rfl)) (by unfold Func.isWrapper; rw [if_neg (of_decide_eq_false (by kernel_rfl))]; exact ⟨rfl, rfl⟩)
    (fun os started H enc _ => lifted os started H enc)

/-- The statement. -/
theorem proved : Rows.JudgeQuestionsSaid := over
end Go.Proofs.Ytogeackcnmeooaa.judgeQuestions
