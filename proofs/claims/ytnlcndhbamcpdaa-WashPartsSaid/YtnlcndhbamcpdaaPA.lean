/-
  The statement WashPartsSaid: for all sizes, times and depths Part answers as the document says, and the known masses come out. No condition.
-/
import Derived.Test.YtnlcndhbamcpdaaK
import Derived.ProofKit
import Derived.OpenShut
import Derived.Lib.SmallJoins
import Derived.ChangeOld
namespace Go.Proofs.Ytnlcndhbamcpdaa.washParts
open Go.ChangeShapes Go.WideShapes Go.ChangeAt Go.RowKit Go.Joins

theorem own : ownKnob Try.prog.godebug = none := by kernel_rfl
theorem laidOut : laidOutB Try.prog = true := by kernel_rfl
theorem cellsPot : Try.prog.cellsOf 27 = 2 := by kernel_rfl

set_option maxHeartbeats 400000 in
theorem walk (s t d : Int) (w : World) : Calls Try.prog 5 #[.int .i64 s, .agg #[.int .i64 t, .int .i64 d]] w fun e w' => e = .returned (.bool true) ∧ Bel w w' := by
  have held : ∀ w', Bel (w.alloc (.cells #[.int .i64 t, .int .i64 d] 27)) w' → w'.cell? ⟨w.heap.size, 0, none⟩ = some (.int .i64 t) ∧ w'.cell? ⟨w.heap.size, 1, none⟩ = some (.int .i64 d) ∧ w.heap.size < w'.heap.size := by
    intro w' h
    obtain ⟨hc, -, hz⟩ := h.use
    simp at hz
    refine ⟨?_, ?_, by omega⟩ <;> (rw [hc _ _ (by simp)]; go_simp)
  have Held := Lib.hid held; clear held
  cases hp : partOk s t d
  · skip
    go_enter Try.func5, Try.ntmps5
    go_wp2_with fail
    refine (rpart_no s t d _ hp).mono ?_
    rintro e w1 ⟨rfl, hb1⟩
    obtain ⟨a1, a2, hz1⟩ := Held.out w1 hb1
    go_wp2_with fail
    refine (wpart_no s t d _ hp).mono ?_
    rintro e w2 ⟨rfl, hb2⟩
    have c1 : w2.cell? ⟨w1.heap.size, 0, none⟩ = some (.int .i64 0) := by rw [hb2.use.1 _ _ (by simp)]; go_simp
    have c2 : w2.cell? ⟨w1.heap.size, 1, none⟩ = some (.int .i64 0) := by rw [hb2.use.1 _ _ (by simp)]; go_simp
    have hz2 : w1.heap.size < w2.heap.size := by have := hb2.use.2.2; simp at this; omega
    go_wp2_with fail
    refine (known_any _).mono ?_
    rintro e w3 ⟨rfl, hb3⟩
    go_wp2
    go_ret
    exact ⟨rfl, by (repeat (first | exact Bel.refl _ | assumption | refine Bel.drew ?_ | refine Bel.drewN ?_ _ | refine Bel.alloc ?_ _ | refine Bel.setCell ?_ (by first | omega | (simp; done) | (simp; omega) | (simp at *; omega)) _ | refine Bel.trans ?_ (by assumption)))⟩
  · skip
    go_enter Try.func5, Try.ntmps5
    go_wp2_with fail
    refine (rpart_yes s t d _ hp).mono ?_
    rintro e w1 ⟨rfl, hb1⟩
    obtain ⟨a1, a2, hz1⟩ := Held.out w1 hb1
    go_wp2_with fail
    refine (wpart_yes s t d _ hp).mono ?_
    rintro e w2 ⟨rfl, hb2⟩
    have c1 : w2.cell? ⟨w1.heap.size, 0, none⟩ = some (.int .i64 (num (skn s t d) d)) := by rw [hb2.use.1 _ _ (by simp)]; go_simp
    have c2 : w2.cell? ⟨w1.heap.size, 1, none⟩ = some (.int .i64 (den (skn s t d) d)) := by rw [hb2.use.1 _ _ (by simp)]; go_simp
    have hz2 : w1.heap.size < w2.heap.size := by have := hb2.use.2.2; simp at this; omega
    go_wp2_with fail
    refine (known_any _).mono ?_
    rintro e w3 ⟨rfl, hb3⟩
    go_wp2
    go_ret
    exact ⟨rfl, by (repeat (first | exact Bel.refl _ | assumption | refine Bel.drew ?_ | refine Bel.drewN ?_ _ | refine Bel.alloc ?_ _ | refine Bel.setCell ?_ (by first | omega | (simp; done) | (simp; omega) | (simp at *; omega)) _ | refine Bel.trans ?_ (by assumption)))⟩

set_option maxRecDepth 100000 in
theorem lifted (os : Os) (started : os.Started) (H : Type) (enc : TypeId × Value → H) :
    ReturnsInHanded {} Try.checked os 5 .any (Rows.washPartsSpec.pre6 enc Try.prog Try.f5 Rows.washPartsRow.domain false) (Rows.washPartsSpec.post enc Try.prog Try.f5 false true false false) := by
  refine returnsInHanded_of_change (C := Try.checked) own started (by kernel_rfl) Try.func5
    (ChangeSpec.witness6 (enc := enc) (C := Try.checked) false ⟨#[], #[.int .i64 0, .agg #[.int .i64 0, .int .i64 0]], []⟩ 8 (by kernel_rfl) (by kernel_rfl) (by kernel_rfl) (by kernel_rfl)) ?_
  intro W base args ds gs before hval0 hW hcnd _
  have hval : ∀ (j : Nat) t v, Try.f5.params[j]? = some t → args[j]? = some v → Value.okWide Try.prog W .any base t v := hval0
  have hW' := hW
  obtain ⟨p, q, hA0, hV, rfl, hfz, hnd⟩ := hW
  have hA : DataW.TrodAll enc Try.prog W 0 (fun _ => true) true Try.f5.params.toList args.toList ds p := hA0
  rw [Try.params5] at hA hval
  obtain ⟨v0, vs0, d0, ds0, p0, q0, hargs, rfl, rfl, h0, r0⟩ := trodAll_cons hA
  obtain ⟨v1, vs1, d1, ds1, p1, q1, rfl, rfl, rfl, h1, r1⟩ := trodAll_cons r0
  obtain ⟨rfl, rfl, rfl⟩ := trodAll_nil r1
  obtain rfl : args = #[v0, v1] := by cases args; simp_all
  obtain ⟨rfl, rfl⟩ := trodVars_none hV
  have lt1 : ∀ x ∈ p1, x.block < W.heap.size := by obtain ⟨m, hm⟩ := h1; exact DataW.trod_lt m _ _ _ hm
  have k1 := h1
  obtain ⟨s, rfl, rfl, rfl, ws⟩ := open_int Try.underlying3 (hval 0 3 v0 rfl rfl) h0
  obtain ⟨t, d, rfl⟩ : ∃ t d : Int, v1 = .agg #[.int .i64 t, .int .i64 d] := by
    obtain ⟨c0, c1, y0, y1, m, rfl, -, -, hy0, hy1⟩ := open_agg2 Try.underlying27 (by kernel_rfl) cellsPot (hval 1 27 v1 rfl rfl) h1
    obtain ⟨a, e0, -, -⟩ := DataW.trod_int Try.underlying3 hy0
    obtain ⟨b, e1, -, -⟩ := DataW.trod_int Try.underlying3 hy1
    simp at e0 e1
    subst e0 e1
    exact ⟨a, b, rfl⟩
  clear hA0 hval0
  refine (walk s t d W).mono fun e W' ⟨he, bel⟩ => ?_
  subst he
  exact ⟨_, rfl, _, _, _, [], _, [], hW', trodAll_mk1 (shut_bool Try.underlying4 _), (trodAll_cons_mk (shut_int Try.underlying3 ws) (trodAll_cons_mk (Below.trod laidOut (by kernel_rfl) (of_decide_eq_true (by kernel_rfl)) k1 bel lt1) trodAll_mk0)), rfl, Below.frame bel _, fun h => by cases h⟩

theorem over : Rows.washPartsRow.holds Try.pinned (OpenSpec.ofChange Rows.washPartsSpec) :=
  OpenClaim.holds_of_wide 5 Try.f5 rfl rfl rfl rfl rfl rfl rfl ⟨rfl, rfl, rfl, rfl, rfl⟩ rfl rfl rfl rfl rfl (by kernel_rfl) Try.func5 (by kernel_rfl)
    (of_decide_eq_true (by kernel_rfl)) (by unfold Func.isWrapper; rw [if_neg (of_decide_eq_false (by kernel_rfl))]; exact ⟨rfl, rfl⟩)
    (fun os started H enc _ => lifted os started H enc)

/-- The statement. -/
theorem proved : Rows.WashPartsSaid := over
end Go.Proofs.Ytnlcndhbamcpdaa.washParts
