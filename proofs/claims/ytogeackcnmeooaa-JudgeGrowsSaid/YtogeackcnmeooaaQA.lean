/-
  The statement JudgeGrowsSaid: the need never falls when more grades are there, for all states, and the known answers come out. No condition.
-/
import Derived.Test.YtogeackcnmeooaaQO
namespace Go.Proofs.Ytogeackcnmeooaa.judgeGrows
open Go.ChangeShapes Go.WideShapes Go.ChangeAt Go.RowKit Go.Joins

theorem held4 {w : World} {a b c d : Int} {ty : TypeId} {w' : World} (h : Bel ((w.alloc (.cells #[.int .i64 a, .int .i64 b] ty)).alloc (.cells #[.int .i64 c, .int .i64 d] ty)) w') :
    w'.cell? ⟨w.heap.size, 0, none⟩ = some (.int .i64 a) ∧ w'.cell? ⟨w.heap.size, 1, none⟩ = some (.int .i64 b) ∧ w'.cell? ⟨w.heap.size + 1, 0, none⟩ = some (.int .i64 c) ∧ w'.cell? ⟨w.heap.size + 1, 1, none⟩ = some (.int .i64 d) := by
  refine ⟨?_, ?_, ?_, ?_⟩ <;> (rw [h.use.1 _ _ (by simp <;> omega)]; go_simp)
theorem need_mono {a b c d : Int} (h1 : inS a b) (h2 : inS c d) (k1 : a ≤ c) (k2 : b ≤ d) : needV a b ≤ needV c d := by
  unfold needV
  rw [if_pos h1, if_pos h2]
  obtain ⟨x1, x2, x3, x4⟩ := h1
  obtain ⟨y1, y2, y3, y4⟩ := h2
  have := (nd_le (a := a.toNat) (b := b.toNat) (by omega) (by omega)).1 (en_less (nd_spec (a := c.toNat) (b := d.toNat) (by omega) (by omega)).1 (by omega) (by omega))
  omega

set_option maxHeartbeats 1000000 in
theorem walk (a b c d : Int) (w : World) : Calls Try.prog 11 #[.agg #[.int .i64 a, .int .i64 b], .agg #[.int .i64 c, .int .i64 d]] w fun e w' => e = .returned (.bool true) ∧ Bel w w' := by
  obtain ⟨m, hm⟩ : ∃ m, m = needV a b := ⟨_, rfl⟩
  obtain ⟨n, hn⟩ : ∃ n, n = needV c d := ⟨_, rfl⟩
  have hmn : inS a b → inS c d → a ≤ c → b ≤ d → m ≤ n := by rw [hm, hn]; exact need_mono
  have HM := Lib.hid hm; have HN := Lib.hid hn
  clear hm hn
  by_cases h1 : inS a b
  · have H1 := Lib.hid (errS_ok h1)
    by_cases h2 : inS c d
    · have H2 := Lib.hid (errS_ok h2)
      have hq := hmn h1 h2
      clear hmn h1 h2
      by_cases k1 : a ≤ c
      · by_cases k2 : b ≤ d
        · have hle := hq k1 k2
          clear hq
          (go_enter Try.func11, Try.ntmps11; go_wp2_with fail; refine (wNeed_any a b _).mono ?_; rintro e w1 ⟨rfl, hb1⟩; rw [← HM.out, H1.out]; obtain ⟨c1, c2, c3, c4⟩ := held4 hb1; go_wp2_with fail; refine (wNeed_any c d _).mono ?_; rintro e w2 ⟨rfl, hb2⟩; rw [← HN.out, H2.out]; obtain ⟨c5, c6, c7, c8⟩ := held4 (hb1.trans hb2); clear c1 c2 c3 c4; go_wp2_with (go_at_call 26; refine (known_any _).mono ?_; rintro e w7 ⟨rfl, hb7⟩); go_ret; exact ⟨rfl, by (repeat (first | exact Bel.refl _ | assumption | refine Bel.drew ?_ | refine Bel.drewN ?_ _ | refine Bel.alloc ?_ _ | refine Bel.setCell ?_ (by first | omega | (simp; done) | (simp; omega) | (simp at *; omega)) _ | refine Bel.trans ?_ (by assumption)))⟩)
        · clear hq
          (go_enter Try.func11, Try.ntmps11; go_wp2_with fail; refine (wNeed_any a b _).mono ?_; rintro e w1 ⟨rfl, hb1⟩; rw [← HM.out, H1.out]; obtain ⟨c1, c2, c3, c4⟩ := held4 hb1; go_wp2_with fail; refine (wNeed_any c d _).mono ?_; rintro e w2 ⟨rfl, hb2⟩; rw [← HN.out, H2.out]; obtain ⟨c5, c6, c7, c8⟩ := held4 (hb1.trans hb2); clear c1 c2 c3 c4; go_wp2_with (go_at_call 26; refine (known_any _).mono ?_; rintro e w7 ⟨rfl, hb7⟩); go_ret; exact ⟨rfl, by (repeat (first | exact Bel.refl _ | assumption | refine Bel.drew ?_ | refine Bel.drewN ?_ _ | refine Bel.alloc ?_ _ | refine Bel.setCell ?_ (by first | omega | (simp; done) | (simp; omega) | (simp at *; omega)) _ | refine Bel.trans ?_ (by assumption)))⟩)
      · clear hq
        (go_enter Try.func11, Try.ntmps11; go_wp2_with fail; refine (wNeed_any a b _).mono ?_; rintro e w1 ⟨rfl, hb1⟩; rw [← HM.out, H1.out]; obtain ⟨c1, c2, c3, c4⟩ := held4 hb1; go_wp2_with fail; refine (wNeed_any c d _).mono ?_; rintro e w2 ⟨rfl, hb2⟩; rw [← HN.out, H2.out]; obtain ⟨c5, c6, c7, c8⟩ := held4 (hb1.trans hb2); clear c1 c2 c3 c4; go_wp2_with (go_at_call 26; refine (known_any _).mono ?_; rintro e w7 ⟨rfl, hb7⟩); go_ret; exact ⟨rfl, by (repeat (first | exact Bel.refl _ | assumption | refine Bel.drew ?_ | refine Bel.drewN ?_ _ | refine Bel.alloc ?_ _ | refine Bel.setCell ?_ (by first | omega | (simp; done) | (simp; omega) | (simp at *; omega)) _ | refine Bel.trans ?_ (by assumption)))⟩)
    · have H2 := Lib.hid (errS_no h2)
      clear hmn h1 h2
      (go_enter Try.func11, Try.ntmps11; go_wp2_with fail; refine (wNeed_any a b _).mono ?_; rintro e w1 ⟨rfl, hb1⟩; rw [← HM.out, H1.out]; obtain ⟨c1, c2, c3, c4⟩ := held4 hb1; go_wp2_with fail; refine (wNeed_any c d _).mono ?_; rintro e w2 ⟨rfl, hb2⟩; rw [← HN.out, H2.out]; obtain ⟨c5, c6, c7, c8⟩ := held4 (hb1.trans hb2); clear c1 c2 c3 c4; go_wp2_with (go_at_call 26; refine (known_any _).mono ?_; rintro e w7 ⟨rfl, hb7⟩); go_ret; exact ⟨rfl, by (repeat (first | exact Bel.refl _ | assumption | refine Bel.drew ?_ | refine Bel.drewN ?_ _ | refine Bel.alloc ?_ _ | refine Bel.setCell ?_ (by first | omega | (simp; done) | (simp; omega) | (simp at *; omega)) _ | refine Bel.trans ?_ (by assumption)))⟩)
  · have H1 := Lib.hid (errS_no h1)
    by_cases h2 : inS c d
    · have H2 := Lib.hid (errS_ok h2)
      clear hmn h1 h2
      (go_enter Try.func11, Try.ntmps11; go_wp2_with fail; refine (wNeed_any a b _).mono ?_; rintro e w1 ⟨rfl, hb1⟩; rw [← HM.out, H1.out]; obtain ⟨c1, c2, c3, c4⟩ := held4 hb1; go_wp2_with fail; refine (wNeed_any c d _).mono ?_; rintro e w2 ⟨rfl, hb2⟩; rw [← HN.out, H2.out]; obtain ⟨c5, c6, c7, c8⟩ := held4 (hb1.trans hb2); clear c1 c2 c3 c4; go_wp2_with (go_at_call 26; refine (known_any _).mono ?_; rintro e w7 ⟨rfl, hb7⟩); go_ret; exact ⟨rfl, by (repeat (first | exact Bel.refl _ | assumption | refine Bel.drew ?_ | refine Bel.drewN ?_ _ | refine Bel.alloc ?_ _ | refine Bel.setCell ?_ (by first | omega | (simp; done) | (simp; omega) | (simp at *; omega)) _ | refine Bel.trans ?_ (by assumption)))⟩)
    · have H2 := Lib.hid (errS_no h2)
      clear hmn h1 h2
      (go_enter Try.func11, Try.ntmps11; go_wp2_with fail; refine (wNeed_any a b _).mono ?_; rintro e w1 ⟨rfl, hb1⟩; rw [← HM.out, H1.out]; obtain ⟨c1, c2, c3, c4⟩ := held4 hb1; go_wp2_with fail; refine (wNeed_any c d _).mono ?_; rintro e w2 ⟨rfl, hb2⟩; rw [← HN.out, H2.out]; obtain ⟨c5, c6, c7, c8⟩ := held4 (hb1.trans hb2); clear c1 c2 c3 c4; go_wp2_with (go_at_call 26; refine (known_any _).mono ?_; rintro e w7 ⟨rfl, hb7⟩); go_ret; exact ⟨rfl, by (repeat (first | exact Bel.refl _ | assumption | refine Bel.drew ?_ | refine Bel.drewN ?_ _ | refine Bel.alloc ?_ _ | refine Bel.setCell ?_ (by first | omega | (simp; done) | (simp; omega) | (simp at *; omega)) _ | refine Bel.trans ?_ (by assumption)))⟩)

set_option maxRecDepth 100000 in
theorem lifted (os : Os) (started : os.Started) (H : Type) (enc : TypeId × Value → H) :
    ReturnsInHanded {} Try.checked os 11 .any (Rows.judgeGrowsSpec.pre6 enc Try.prog Try.f11 Rows.judgeGrowsRow.domain false) (Rows.judgeGrowsSpec.post enc Try.prog Try.f11 false true false false) := by
  refine returnsInHanded_of_change_sized (C := Try.checked) own started (by kernel_rfl) Try.func11
    (ChangeSpec.witness6 (enc := enc) (C := Try.checked) false ⟨#[], #[.agg #[.int .i64 0, .int .i64 0], .agg #[.int .i64 0, .int .i64 0]], []⟩ 8 (by kernel_rfl) (by kernel_rfl) (by kernel_rfl) (by kernel_rfl)) ?_
  intro W base args ds gs before hval0 hW hcnd hsz0 _
  have hval : ∀ (j : Nat) t v, Try.f11.params[j]? = some t → args[j]? = some v → Value.okWide Try.prog W .any base t v := hval0
  have hsz : (DataW.weightsEach Try.prog (Try.f11.params.toList ++ Rows.judgeGrowsSpec.plain.varTypes Try.prog) (ds ++ gs)).all (· ≤ reachBytes) = true := hsz0
  have hW' := hW
  obtain ⟨p, q, hA0, hV, rfl, hfz, hnd⟩ := hW
  have hA : DataW.TrodAll enc Try.prog W 0 (fun _ => true) true Try.f11.params.toList args.toList ds p := hA0
  rw [Try.params11] at hA hval hsz
  obtain ⟨v0, vs0, d0, ds0, p0, q0, hargs, rfl, rfl, h0, r0⟩ := trodAll_cons hA
  obtain ⟨v1, vs1, d1, ds1, p1, q1, rfl, rfl, rfl, h1, r1⟩ := trodAll_cons r0
  obtain ⟨rfl, rfl, rfl⟩ := trodAll_nil r1
  obtain rfl : args = #[v0, v1] := by cases args; simp_all
  obtain ⟨rfl, rfl⟩ := trodVars_none hV
  have k0 := h0
  have lt0 : ∀ x ∈ p0, x.block < W.heap.size := by obtain ⟨m, hm⟩ := k0; exact DataW.trod_lt m _ _ _ hm
  have k1 := h1
  have lt1 : ∀ x ∈ p1, x.block < W.heap.size := by obtain ⟨m, hm⟩ := k1; exact DataW.trod_lt m _ _ _ hm
  obtain ⟨x0, y0, rfl⟩ := open_state (hval 0 28 v0 rfl rfl) h0
  obtain ⟨x1, y1, rfl⟩ := open_state (hval 1 28 v1 rfl rfl) h1
  clear hA0 hval0
  refine (walk x0 y0 x1 y1 W ).mono fun e W' ⟨he, bel⟩ => ?_
  subst he
  exact ⟨_, rfl, _, _, _, [], _, [], hW', trodAll_mk1 (shut_bool Try.underlying4 _), trodAll_cons_mk (Below.trod laidOut (by kernel_rfl) (of_decide_eq_true (by kernel_rfl)) k0 bel lt0) (trodAll_cons_mk (Below.trod laidOut (by kernel_rfl) (of_decide_eq_true (by kernel_rfl)) k1 bel lt1) (trodAll_mk0)), rfl, Below.frame bel _, fun h => by cases h⟩

theorem over : Rows.judgeGrowsRow.holds Try.pinned (OpenSpec.ofChange Rows.judgeGrowsSpec) :=
  OpenClaim.holds_of_wide 11 Try.f11 rfl rfl rfl rfl rfl rfl rfl ⟨rfl, rfl, rfl, rfl, rfl⟩ rfl rfl rfl rfl rfl (by kernel_rfl) Try.func11 (by kernel_rfl)
    (of_decide_eq_true (by kernel_rfl)) (by unfold Func.isWrapper; rw [if_neg (of_decide_eq_false (by kernel_rfl))]; exact ⟨rfl, rfl⟩)
    (fun os started H enc _ => lifted os started H enc)

/-- The statement. -/
theorem proved : Rows.JudgeGrowsSaid := over
end Go.Proofs.Ytogeackcnmeooaa.judgeGrows
