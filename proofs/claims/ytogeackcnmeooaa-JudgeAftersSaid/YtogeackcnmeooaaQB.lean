/-
  The statement JudgeAftersSaid: for all states and questions After answers as the document says, no grade comes, and the known answers come out. No condition.
-/
import Derived.Test.YtogeackcnmeooaaJJ
namespace Go.Proofs.Ytogeackcnmeooaa.judgeAfters
open Go.ChangeShapes Go.WideShapes Go.ChangeAt Go.RowKit Go.Joins

theorem held5 {w : World} {a b x y : Int} {z : Bool} {t t' : TypeId} {w' : World} (h : Bel ((w.alloc (.cells #[.int .i64 a, .int .i64 b] t)).alloc (.cells #[.int .i64 x, .int .i64 y, .bool z] t')) w') :
    w'.cell? ⟨w.heap.size, 0, none⟩ = some (.int .i64 a) ∧ w'.cell? ⟨w.heap.size, 1, none⟩ = some (.int .i64 b) ∧ w'.cell? ⟨w.heap.size + 1, 0, none⟩ = some (.int .i64 x) ∧ w'.cell? ⟨w.heap.size + 1, 1, none⟩ = some (.int .i64 y) ∧ w'.cell? ⟨w.heap.size + 1, 2, none⟩ = some (.bool z) := by
  refine ⟨?_, ?_, ?_, ?_, ?_⟩ <;> (rw [h.use.1 _ _ (by simp <;> omega)]; go_simp)
theorem no_more {a b x y : Int} {yes : Bool} (h : inS a b) (h2 : inQ a b x y) : 0 ≤ aft1 a b x y yes ∧ 0 ≤ aft2 a b x y yes ∧ aft1 a b x y yes + aft2 a b x y yes ≤ a + b ∧ aft1 a b x y yes ≤ 16 ∧ aft2 a b x y yes ≤ 32 := by
  obtain ⟨e1, e2, -⟩ := aft_ok (yes := yes) h h2
  obtain ⟨i1, i2, i3, i4⟩ := h
  obtain ⟨x1, x2, y1, y2⟩ := h2
  rw [e1, e2]
  cases yes <;> simp <;> omega

set_option maxRecDepth 100000 in
set_option maxHeartbeats 2000000 in
theorem walk (a b x y : Int) (z : Bool) (w : World) : Calls Try.prog 6 #[.agg #[.int .i64 a, .int .i64 b], .agg #[.int .i64 x, .int .i64 y, .bool z]] w fun e w' => e = .returned (.bool true) ∧ Bel w w' := by
  by_cases h : inS a b ∧ inQ a b x y
  · obtain ⟨h1, h2⟩ := h
    obtain ⟨n1, n2, n3, n4, n5⟩ := no_more (yes := z) h1 h2
    have HE := Lib.hid (aft_ok (yes := z) h1 h2).2.2
    obtain ⟨i1, i2, i3, i4⟩ := h1
    clear h2
    generalize hu : aft1 a b x y z = u at *
    generalize hv : aft2 a b x y z = v at *
    have HU := Lib.hid hu; have HV := Lib.hid hv
    clear hu hv
    go_enter Try.func6, Try.ntmps6
    go_wp2_with fail
    refine (rAfter_any a b x y z _).mono ?_
    rintro e w1 ⟨rfl, rfl⟩
    rw [HU.out, HV.out, HE.out]
    go_wp2_with fail
    refine (wAfter_any a b x y z _).mono ?_
    rintro e w1 ⟨rfl, hb1⟩
    rw [HU.out, HV.out, HE.out]
    obtain ⟨c1, c2, c3, c4, c5⟩ := held5 hb1
    go_wp2_with (go_at_call 26; refine (known_any _).mono ?_; rintro e w7 ⟨rfl, hb7⟩)
    go_ret
    exact ⟨rfl, by (repeat (first | exact Bel.refl _ | assumption | refine Bel.drew ?_ | refine Bel.drewN ?_ _ | refine Bel.alloc ?_ _ | refine Bel.setCell ?_ (by first | omega | (simp; done) | (simp; omega) | (simp at *; omega)) _ | refine Bel.trans ?_ (by assumption)))⟩
  · have hne : (errW a b x y != 0) = true := by
      unfold errW
      by_cases h1 : inS a b
      · rw [if_pos h1, if_neg (fun k => h ⟨h1, k⟩)]; rfl
      · rw [if_neg h1]; rfl
    clear h
    generalize hu : aft1 a b x y z = u at *
    generalize hv : aft2 a b x y z = v at *
    generalize hq : errW a b x y = q at *
    have HU := Lib.hid hu; have HV := Lib.hid hv; have HQ := Lib.hid hq
    clear hu hv hq
    go_enter Try.func6, Try.ntmps6
    go_wp2_with fail
    refine (rAfter_any a b x y z _).mono ?_
    rintro e w1 ⟨rfl, rfl⟩
    rw [HU.out, HV.out, HQ.out]
    go_wp2_with fail
    refine (wAfter_any a b x y z _).mono ?_
    rintro e w1 ⟨rfl, hb1⟩
    rw [HU.out, HV.out, HQ.out]
    obtain ⟨c1, c2, c3, c4, c5⟩ := held5 hb1
    go_wp2_with (go_at_call 26; refine (known_any _).mono ?_; rintro e w7 ⟨rfl, hb7⟩)
    go_ret
    exact ⟨rfl, by (repeat (first | exact Bel.refl _ | assumption | refine Bel.drew ?_ | refine Bel.drewN ?_ _ | refine Bel.alloc ?_ _ | refine Bel.setCell ?_ (by first | omega | (simp; done) | (simp; omega) | (simp at *; omega)) _ | refine Bel.trans ?_ (by assumption)))⟩

set_option maxRecDepth 100000 in
theorem lifted (os : Os) (started : os.Started) (H : Type) (enc : TypeId × Value → H) :
    ReturnsInHanded {} Try.checked os 6 .any (Rows.judgeAftersSpec.pre6 enc Try.prog Try.f6 Rows.judgeAftersRow.domain false) (Rows.judgeAftersSpec.post enc Try.prog Try.f6 false true false false) := by
  refine returnsInHanded_of_change_sized (C := Try.checked) own started (by kernel_rfl) Try.func6
    (ChangeSpec.witness6 (enc := enc) (C := Try.checked) false ⟨#[], #[.agg #[.int .i64 0, .int .i64 0], .agg #[.int .i64 0, .int .i64 0, .bool false]], []⟩ 8 (by kernel_rfl) (by kernel_rfl) (by kernel_rfl) (by kernel_rfl)) ?_
  intro W base args ds gs before hval0 hW hcnd hsz0 _
  have hval : ∀ (j : Nat) t v, Try.f6.params[j]? = some t → args[j]? = some v → Value.okWide Try.prog W .any base t v := hval0
  have hsz : (DataW.weightsEach Try.prog (Try.f6.params.toList ++ Rows.judgeAftersSpec.plain.varTypes Try.prog) (ds ++ gs)).all (· ≤ reachBytes) = true := hsz0
  have hW' := hW
  obtain ⟨p, q, hA0, hV, rfl, hfz, hnd⟩ := hW
  have hA : DataW.TrodAll enc Try.prog W 0 (fun _ => true) true Try.f6.params.toList args.toList ds p := hA0
  rw [Try.params6] at hA hval hsz
  obtain ⟨v0, vs0, d0, ds0, p0, q0, hargs, rfl, rfl, h0, r0⟩ := trodAll_cons hA
  obtain ⟨v1, vs1, d1, ds1, p1, q1, rfl, rfl, rfl, h1, r1⟩ := trodAll_cons r0
  obtain ⟨rfl, rfl, rfl⟩ := trodAll_nil r1
  obtain rfl : args = #[v0, v1] := by cases args; simp_all
  obtain ⟨rfl, rfl⟩ := trodVars_none hV
  have k0 := h0
  have lt0 : ∀ x ∈ p0, x.block < W.heap.size := by obtain ⟨m, hm⟩ := k0; exact DataW.trod_lt m _ _ _ hm
  have k1 := h1
  have lt1 : ∀ x ∈ p1, x.block < W.heap.size := by obtain ⟨m, hm⟩ := k1; exact DataW.trod_lt m _ _ _ hm
  obtain ⟨x0, y0, rfl⟩ := open_state (hval 0 28 v0 rfl rfl) h0
  obtain ⟨x1, y1, z1, rfl⟩ := open_ask (hval 1 30 v1 rfl rfl) h1
  clear hA0 hval0
  refine (walk x0 y0 x1 y1 z1 W ).mono fun e W' ⟨he, bel⟩ => ?_
  subst he
  exact ⟨_, rfl, _, _, _, [], _, [], hW', trodAll_mk1 (shut_bool Try.underlying4 _), trodAll_cons_mk (Below.trod laidOut (by kernel_rfl) (of_decide_eq_true (by kernel_rfl)) k0 bel lt0) (trodAll_cons_mk (Below.trod laidOut (by kernel_rfl) (of_decide_eq_true (by kernel_rfl)) k1 bel lt1) (trodAll_mk0)), rfl, Below.frame bel _, fun h => by cases h⟩

theorem over : Rows.judgeAftersRow.holds Try.pinned (OpenSpec.ofChange Rows.judgeAftersSpec) :=
  OpenClaim.holds_of_wide 6 Try.f6 rfl rfl rfl rfl rfl rfl rfl ⟨rfl, rfl, rfl, rfl, rfl⟩ rfl rfl rfl rfl rfl (by kernel_rfl) Try.func6 (by kernel_rfl)
    (of_decide_eq_true (by kernel_rfl)) (by unfold Func.isWrapper; rw [if_neg (of_decide_eq_false (by kernel_rfl))]; exact ⟨rfl, rfl⟩)
    (fun os started H enc _ => lifted os started H enc)

/-- The statement. -/
theorem proved : Rows.JudgeAftersSaid := over
end Go.Proofs.Ytogeackcnmeooaa.judgeAfters
