/-
  The statement JudgeNeedsSaid: for all states Need and Bound answer as the document says, the need is no less than the bound, and the known answers come out. No condition.
-/
import Derived.Test.YtogeackcnmeooaaJN
namespace Go.Proofs.Ytogeackcnmeooaa.judgeNeeds
open Go.ChangeShapes Go.WideShapes Go.ChangeAt Go.RowKit Go.Joins

theorem need_bd {a b : Int} (h : inS a b) : 0 ≤ needV a b ∧ needV a b ≤ 8 ∧ boundV a b ≤ needV a b := by
  unfold needV boundV
  rw [if_pos h, if_pos h]
  obtain ⟨h1, h2, h3, h4⟩ := h
  have := bd_le_nd (a := a.toNat) (b := b.toNat) (by omega) (by omega)
  have := (nd_spec (a := a.toNat) (b := b.toNat) (by omega) (by omega)).2.1
  omega

set_option maxRecDepth 100000 in
set_option maxHeartbeats 2000000 in
theorem walk (a b : Int) (w : World) : Calls Try.prog 10 #[.agg #[.int .i64 a, .int .i64 b]] w fun e w' => e = .returned (.bool true) ∧ Bel w w' := by
  have hbd := fun h : inS a b => need_bd h
  generalize hm : needV a b = m at *
  generalize hn : boundV a b = n at *
  have HM := Lib.hid hm; have HN := Lib.hid hn
  clear hm hn
  by_cases h1 : inS a b
  · have H1 := Lib.hid (errS_ok h1)
    obtain ⟨b1, b2, b3⟩ := hbd h1
    obtain ⟨i1, i2, i3, i4⟩ := h1
    clear hbd
    by_cases hs : a + b < 2
    · (go_enter Try.func10, Try.ntmps10; go_wp2_with fail; refine (rNeed_any a b _).mono ?_; rintro e w1 ⟨rfl, hb1⟩; rw [HM.out, H1.out]; obtain ⟨c1, c2⟩ := box2 hb1; go_wp2_with fail; refine (rBound_any a b _).mono ?_; rintro e w2 ⟨rfl, hb2⟩; rw [HN.out, H1.out]; clear c1 c2; obtain ⟨c1, c2⟩ := box2 (hb1.trans hb2); go_wp2_with fail; refine (wNeed_any a b _).mono ?_; rintro e w3 ⟨rfl, hb3⟩; rw [HM.out, H1.out]; clear c1 c2; obtain ⟨c1, c2⟩ := box2 ((hb1.trans hb2).trans hb3); go_wp2_with fail; refine (wBound_any a b _).mono ?_; rintro e w4 ⟨rfl, hb4⟩; rw [HN.out, H1.out]; clear c1 c2; obtain ⟨c1, c2⟩ := box2 (((hb1.trans hb2).trans hb3).trans hb4); go_wp2_with (go_at_call 26; refine (known_any _).mono ?_; rintro e w7 ⟨rfl, hb7⟩); go_ret; exact ⟨rfl, by (repeat (first | exact Bel.refl _ | assumption | refine Bel.drew ?_ | refine Bel.drewN ?_ _ | refine Bel.alloc ?_ _ | refine Bel.setCell ?_ (by first | omega | (simp; done) | (simp; omega) | (simp at *; omega)) _ | refine Bel.trans ?_ (by assumption)))⟩)
    · (go_enter Try.func10, Try.ntmps10; go_wp2_with fail; refine (rNeed_any a b _).mono ?_; rintro e w1 ⟨rfl, hb1⟩; rw [HM.out, H1.out]; obtain ⟨c1, c2⟩ := box2 hb1; go_wp2_with fail; refine (rBound_any a b _).mono ?_; rintro e w2 ⟨rfl, hb2⟩; rw [HN.out, H1.out]; clear c1 c2; obtain ⟨c1, c2⟩ := box2 (hb1.trans hb2); go_wp2_with fail; refine (wNeed_any a b _).mono ?_; rintro e w3 ⟨rfl, hb3⟩; rw [HM.out, H1.out]; clear c1 c2; obtain ⟨c1, c2⟩ := box2 ((hb1.trans hb2).trans hb3); go_wp2_with fail; refine (wBound_any a b _).mono ?_; rintro e w4 ⟨rfl, hb4⟩; rw [HN.out, H1.out]; clear c1 c2; obtain ⟨c1, c2⟩ := box2 (((hb1.trans hb2).trans hb3).trans hb4); go_wp2_with (go_at_call 26; refine (known_any _).mono ?_; rintro e w7 ⟨rfl, hb7⟩); go_ret; exact ⟨rfl, by (repeat (first | exact Bel.refl _ | assumption | refine Bel.drew ?_ | refine Bel.drewN ?_ _ | refine Bel.alloc ?_ _ | refine Bel.setCell ?_ (by first | omega | (simp; done) | (simp; omega) | (simp at *; omega)) _ | refine Bel.trans ?_ (by assumption)))⟩)
  · have H1 := Lib.hid (errS_no h1)
    clear hbd h1
    (go_enter Try.func10, Try.ntmps10; go_wp2_with fail; refine (rNeed_any a b _).mono ?_; rintro e w1 ⟨rfl, hb1⟩; rw [HM.out, H1.out]; obtain ⟨c1, c2⟩ := box2 hb1; go_wp2_with fail; refine (rBound_any a b _).mono ?_; rintro e w2 ⟨rfl, hb2⟩; rw [HN.out, H1.out]; clear c1 c2; obtain ⟨c1, c2⟩ := box2 (hb1.trans hb2); go_wp2_with fail; refine (wNeed_any a b _).mono ?_; rintro e w3 ⟨rfl, hb3⟩; rw [HM.out, H1.out]; clear c1 c2; obtain ⟨c1, c2⟩ := box2 ((hb1.trans hb2).trans hb3); go_wp2_with fail; refine (wBound_any a b _).mono ?_; rintro e w4 ⟨rfl, hb4⟩; rw [HN.out, H1.out]; clear c1 c2; obtain ⟨c1, c2⟩ := box2 (((hb1.trans hb2).trans hb3).trans hb4); go_wp2_with (go_at_call 26; refine (known_any _).mono ?_; rintro e w7 ⟨rfl, hb7⟩); go_ret; exact ⟨rfl, by (repeat (first | exact Bel.refl _ | assumption | refine Bel.drew ?_ | refine Bel.drewN ?_ _ | refine Bel.alloc ?_ _ | refine Bel.setCell ?_ (by first | omega | (simp; done) | (simp; omega) | (simp at *; omega)) _ | refine Bel.trans ?_ (by assumption)))⟩)

set_option maxRecDepth 100000 in
theorem lifted (os : Os) (started : os.Started) (H : Type) (enc : TypeId × Value → H) :
    ReturnsInHanded {} Try.checked os 10 .any (Rows.judgeNeedsSpec.pre6 enc Try.prog Try.f10 Rows.judgeNeedsRow.domain false) (Rows.judgeNeedsSpec.post enc Try.prog Try.f10 false true false false) := by
  refine returnsInHanded_of_change_sized (C := Try.checked) own started (by kernel_rfl) Try.func10
    (ChangeSpec.witness6 (enc := enc) (C := Try.checked) false ⟨#[], #[.agg #[.int .i64 0, .int .i64 0]], []⟩ 8 (by kernel_rfl) (by kernel_rfl) (by kernel_rfl) (by kernel_rfl)) ?_
  intro W base args ds gs before hval0 hW hcnd hsz0 _
  have hval : ∀ (j : Nat) t v, Try.f10.params[j]? = some t → args[j]? = some v → Value.okWide Try.prog W .any base t v := hval0
  have hsz : (DataW.weightsEach Try.prog (Try.f10.params.toList ++ Rows.judgeNeedsSpec.plain.varTypes Try.prog) (ds ++ gs)).all (· ≤ reachBytes) = true := hsz0
  have hW' := hW
  obtain ⟨p, q, hA0, hV, rfl, hfz, hnd⟩ := hW
  have hA : DataW.TrodAll enc Try.prog W 0 (fun _ => true) true Try.f10.params.toList args.toList ds p := hA0
  rw [Try.params10] at hA hval hsz
  obtain ⟨v0, vs0, d0, ds0, p0, q0, hargs, rfl, rfl, h0, r0⟩ := trodAll_cons hA
  obtain ⟨rfl, rfl, rfl⟩ := trodAll_nil r0
  obtain rfl : args = #[v0] := by cases args; simp_all
  obtain ⟨rfl, rfl⟩ := trodVars_none hV
  have k0 := h0
  have lt0 : ∀ x ∈ p0, x.block < W.heap.size := by obtain ⟨m, hm⟩ := k0; exact DataW.trod_lt m _ _ _ hm
  obtain ⟨x0, y0, rfl⟩ := open_state (hval 0 28 v0 rfl rfl) h0
  clear hA0 hval0
  refine (walk x0 y0 W ).mono fun e W' ⟨he, bel⟩ => ?_
  subst he
  exact ⟨_, rfl, _, _, _, [], _, [], hW', trodAll_mk1 (shut_bool Try.underlying4 _), trodAll_cons_mk (Below.trod laidOut (by kernel_rfl) (of_decide_eq_true (by kernel_rfl)) k0 bel lt0) (trodAll_mk0), rfl, Below.frame bel _, fun h => by cases h⟩

theorem over : Rows.judgeNeedsRow.holds Try.pinned (OpenSpec.ofChange Rows.judgeNeedsSpec) :=
  OpenClaim.holds_of_wide 10 Try.f10 rfl rfl rfl rfl rfl rfl rfl ⟨rfl, rfl, rfl, rfl, rfl⟩ rfl rfl rfl rfl rfl (by kernel_rfl) Try.func10 (by kernel_rfl)
    (of_decide_eq_true (by kernel_rfl)) (by unfold Func.isWrapper; rw [if_neg (of_decide_eq_false (by kernel_rfl))]; exact ⟨rfl, rfl⟩)
    (fun os started H enc _ => lifted os started H enc)

/-- The statement. -/
theorem proved : Rows.JudgeNeedsSaid := over
end Go.Proofs.Ytogeackcnmeooaa.judgeNeeds
