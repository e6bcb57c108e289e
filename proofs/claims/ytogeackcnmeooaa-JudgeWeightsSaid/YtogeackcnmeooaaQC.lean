/-
  The statement JudgeWeightsSaid: for all states and numbers Weight answers as the document says, the weights after both answers add up to it, and the known answers come out. No condition.
-/
import Derived.Test.YtogeackcnmeooaaJJ
namespace Go.Proofs.Ytogeackcnmeooaa.judgeWeights
open Go.ChangeShapes Go.WideShapes Go.ChangeAt Go.RowKit Go.Joins

theorem held5 {w : World} {a b x y : Int} {z : Bool} {t t' : TypeId} {w' : World} (h : Bel ((w.alloc (.cells #[.int .i64 a, .int .i64 b] t)).alloc (.cells #[.int .i64 x, .int .i64 y, .bool z] t')) w') :
    w'.cell? ⟨w.heap.size, 0, none⟩ = some (.int .i64 a) ∧ w'.cell? ⟨w.heap.size, 1, none⟩ = some (.int .i64 b) ∧ w'.cell? ⟨w.heap.size + 1, 0, none⟩ = some (.int .i64 x) ∧ w'.cell? ⟨w.heap.size + 1, 1, none⟩ = some (.int .i64 y) ∧ w'.cell? ⟨w.heap.size + 1, 2, none⟩ = some (.bool z) := by
  refine ⟨?_, ?_, ?_, ?_, ?_⟩ <;> (rw [h.use.1 _ _ (by simp <;> omega)]; go_simp)
theorem errQ_cases (a b q : Int) : errQ a b q = 0 ∨ (errQ a b q != 0) = true := by
  unfold errQ
  split <;> simp
theorem errW_cases (a b x y : Int) : errW a b x y = 0 ∨ (errW a b x y != 0) = true := by
  unfold errW
  split <;> (try split) <;> simp
theorem errQ_in {a b q : Int} (h : errQ a b q = 0) : inS a b ∧ 0 ≤ q ∧ q ≤ 12 := by
  unfold errQ at h
  split at h
  · assumption
  · omega
theorem errW_in {a b x y : Int} (h : errW a b x y = 0) : inS a b ∧ inQ a b x y := by
  unfold errW at h
  split at h
  · split at h
    · exact ⟨by assumption, by assumption⟩
    · omega
  · omega
/-- The weights after both answers. -/
theorem adds {a b q x y : Int} (h : errQ a b q = 0) (h2 : errW a b x y = 0) (hq : q ≠ 0) (h3 : aft2 a b x y true ≤ 16) (h4 : aft2 a b x y false ≤ 16) :
    errQ (aft1 a b x y true) (aft2 a b x y true) (q - 1) = 0 ∧ errQ (aft1 a b x y false) (aft2 a b x y false) (q - 1) = 0 ∧
    weightV (aft1 a b x y true) (aft2 a b x y true) (q - 1) + weightV (aft1 a b x y false) (aft2 a b x y false) (q - 1) = weightV a b q ∧
    (0 ≤ weightV (aft1 a b x y true) (aft2 a b x y true) (q - 1) ∧ weightV (aft1 a b x y true) (aft2 a b x y true) (q - 1) ≤ 1000) ∧
    (0 ≤ weightV (aft1 a b x y false) (aft2 a b x y false) (q - 1) ∧ weightV (aft1 a b x y false) (aft2 a b x y false) (q - 1) ≤ 1000) := by
  obtain ⟨s1, s2, s3⟩ := errQ_in h
  obtain ⟨_, s4⟩ := errW_in h2
  obtain ⟨e1, e2, -⟩ := aft_ok (yes := true) s1 s4
  obtain ⟨e3, e4, -⟩ := aft_ok (yes := false) s1 s4
  simp only [if_true] at e1 e2
  simp only [Bool.false_eq_true, if_false] at e3 e4
  rw [e2] at h3
  rw [e4] at h4
  rw [e1, e2, e3, e4]
  obtain ⟨x1, x2, y1, y2⟩ := s4
  obtain ⟨i1, i2, i3, i4⟩ := s1
  have k1 : inS x (y + a - x) := ⟨by omega, by omega, by omega, by omega⟩
  have k2 : inS (a - x) (b - y + x) := ⟨by omega, by omega, by omega, by omega⟩
  have w1 : weightV x (y + a - x) (q - 1) = x * (q - 1 + 1) + (y + a - x) := if_pos ⟨k1, by omega, by omega⟩
  have w2 : weightV (a - x) (b - y + x) (q - 1) = (a - x) * (q - 1 + 1) + (b - y + x) := if_pos ⟨k2, by omega, by omega⟩
  have w3 : weightV a b q = a * (q + 1) + b := if_pos ⟨⟨i1, i2, i3, i4⟩, by omega, by omega⟩
  rw [w1, w2, w3]
  have eq : q - 1 + 1 = q := by omega
  rw [eq]
  have m1 : 0 ≤ x * q := Int.mul_nonneg x1 (by omega)
  have m2 : x * q ≤ 16 * 13 := Int.mul_le_mul (by omega) (by omega) (by omega) (by omega)
  have m3 : 0 ≤ (a - x) * q := Int.mul_nonneg (by omega) (by omega)
  have m4 : (a - x) * q ≤ 16 * 13 := Int.mul_le_mul (by omega) (by omega) (by omega) (by omega)
  have d1 : x * q + (a - x) * q = a * q := by rw [← Int.add_mul, show x + (a - x) = a from by omega]
  have d2 : a * (q + 1) = a * q + a := by rw [Int.mul_add, Int.mul_one]
  rw [d2, ← d1]
  generalize x * q = P at *
  generalize (a - x) * q = R at *
  exact ⟨errQ_ok k1 (by omega) (by omega), errQ_ok k2 (by omega) (by omega), by omega, ⟨by omega, by omega⟩, by omega, by omega⟩

set_option maxRecDepth 100000 in
set_option maxHeartbeats 4000000 in
theorem walk (a b x y : Int) (z : Bool) (q : Int) (w : World) : Calls Try.prog 8 #[.agg #[.int .i64 a, .int .i64 b], .agg #[.int .i64 x, .int .i64 y, .bool z], .int .i64 q] w fun e w' => e = .returned (.bool true) ∧ Bel w w' := by
  have hq0 := errQ_cases a b q
  have hw0 := errW_cases a b x y
  have hadd := fun h h2 => adds (a := a) (b := b) (q := q) (x := x) (y := y) h h2
  have hqb := fun h : errQ a b q = 0 => (errQ_in h).2
  generalize hu : aft1 a b x y true = u at *
  generalize hv : aft2 a b x y true = v at *
  generalize hm : aft1 a b x y false = m at *
  generalize hn : aft2 a b x y false = n at *
  generalize hg : errW a b x y = g at *
  generalize he : errQ a b q = f at *
  generalize ht : weightV a b q = t at *
  have HU := Lib.hid hu; have HV := Lib.hid hv; have HM := Lib.hid hm; have HN := Lib.hid hn; have HG := Lib.hid hg; have HF := Lib.hid he; have HT := Lib.hid ht
  clear hu hv hm hn hg he ht
  rcases hq0 with rfl | hq0
  · rcases hw0 with rfl | hw0
    · obtain ⟨q1, q2⟩ := hqb rfl
      clear hqb
      by_cases hz : q = 0
      · subst hz
        clear hadd
        (go_enter Try.func8, Try.ntmps8; go_wp2_with fail; refine (rWeight_any a b _ _).mono ?_; rintro e w1 ⟨rfl, rfl⟩; rw [HT.out, HF.out]; go_wp2_with fail; refine (wWeight_any a b _ _).mono ?_; rintro e w1 ⟨rfl, hb1⟩; rw [HT.out, HF.out]; obtain ⟨c1, c2, c3, c4, c5⟩ := held5 hb1; go_wp2_with fail; refine (wAfter_any a b x y true _).mono ?_; rintro e w2 ⟨rfl, hb2⟩; rw [HU.out, HV.out, HG.out]; clear c1 c2 c3 c4 c5; obtain ⟨c1, c2, c3, c4, c5⟩ := held5 (hb1.trans hb2); go_wp2_with fail; refine (wAfter_any a b x y false _).mono ?_; rintro e w3 ⟨rfl, hb3⟩; rw [HM.out, HN.out, HG.out]; clear c1 c2 c3 c4 c5; obtain ⟨c1, c2, c3, c4, c5⟩ := held5 ((hb1.trans hb2).trans hb3))
        go_wp2_with (go_at_call 26; refine (known_any _).mono ?_; rintro e w7 ⟨rfl, hb7⟩)
        go_ret
        exact ⟨rfl, by (repeat (first | exact Bel.refl _ | assumption | refine Bel.drew ?_ | refine Bel.drewN ?_ _ | refine Bel.alloc ?_ _ | refine Bel.setCell ?_ (by first | omega | (simp; done) | (simp; omega) | (simp at *; omega)) _ | refine Bel.trans ?_ (by assumption)))⟩
      · have hqz : (q == 0) = false := by simpa using hz
        by_cases h3 : v ≤ 16
        · by_cases h4 : n ≤ 16
          · obtain ⟨a1, a2, a3, ⟨a4, a5⟩, a6, a7⟩ := hadd rfl rfl hz h3 h4
            generalize hk : weightV u v (q - 1) = k at *
            generalize hl : weightV m n (q - 1) = l at *
            have A1 := Lib.hid a1; have A2 := Lib.hid a2; have A3 := Lib.hid a3; have HK := Lib.hid hk; have HL := Lib.hid hl
            have hq1 : 1 ≤ q := by omega
            clear hadd a1 a2 a3 hk hl hz
            (go_enter Try.func8, Try.ntmps8; go_wp2_with fail; refine (rWeight_any a b _ _).mono ?_; rintro e w1 ⟨rfl, rfl⟩; rw [HT.out, HF.out]; go_wp2_with fail; refine (wWeight_any a b _ _).mono ?_; rintro e w1 ⟨rfl, hb1⟩; rw [HT.out, HF.out]; obtain ⟨c1, c2, c3, c4, c5⟩ := held5 hb1; go_wp2_with fail; refine (wAfter_any a b x y true _).mono ?_; rintro e w2 ⟨rfl, hb2⟩; rw [HU.out, HV.out, HG.out]; clear c1 c2 c3 c4 c5; obtain ⟨c1, c2, c3, c4, c5⟩ := held5 (hb1.trans hb2); go_wp2_with fail; refine (wAfter_any a b x y false _).mono ?_; rintro e w3 ⟨rfl, hb3⟩; rw [HM.out, HN.out, HG.out]; clear c1 c2 c3 c4 c5; obtain ⟨c1, c2, c3, c4, c5⟩ := held5 ((hb1.trans hb2).trans hb3))
            go_wp2_with fail
            refine (wWeight_any u v (q - 1) _).mono ?_
            rintro e w4 ⟨rfl, hb4⟩
            rw [A1.out, HK.out]
            go_wp2_with fail
            refine (wWeight_any m n (q - 1) _).mono ?_
            rintro e w5 ⟨rfl, hb5⟩
            rw [A2.out, HL.out]
            have hkl : (k + l == t) = true := by rw [A3.out]; simp
            go_wp2_with (go_at_call 26; refine (known_any _).mono ?_; rintro e w7 ⟨rfl, hb7⟩)
            go_ret
            exact ⟨rfl, by (repeat (first | exact Bel.refl _ | assumption | refine Bel.drew ?_ | refine Bel.drewN ?_ _ | refine Bel.alloc ?_ _ | refine Bel.setCell ?_ (by first | omega | (simp; done) | (simp; omega) | (simp at *; omega)) _ | refine Bel.trans ?_ (by assumption)))⟩
          · clear hadd hz
            (go_enter Try.func8, Try.ntmps8; go_wp2_with fail; refine (rWeight_any a b _ _).mono ?_; rintro e w1 ⟨rfl, rfl⟩; rw [HT.out, HF.out]; go_wp2_with fail; refine (wWeight_any a b _ _).mono ?_; rintro e w1 ⟨rfl, hb1⟩; rw [HT.out, HF.out]; obtain ⟨c1, c2, c3, c4, c5⟩ := held5 hb1; go_wp2_with fail; refine (wAfter_any a b x y true _).mono ?_; rintro e w2 ⟨rfl, hb2⟩; rw [HU.out, HV.out, HG.out]; clear c1 c2 c3 c4 c5; obtain ⟨c1, c2, c3, c4, c5⟩ := held5 (hb1.trans hb2); go_wp2_with fail; refine (wAfter_any a b x y false _).mono ?_; rintro e w3 ⟨rfl, hb3⟩; rw [HM.out, HN.out, HG.out]; clear c1 c2 c3 c4 c5; obtain ⟨c1, c2, c3, c4, c5⟩ := held5 ((hb1.trans hb2).trans hb3))
            go_wp2_with (go_at_call 26; refine (known_any _).mono ?_; rintro e w7 ⟨rfl, hb7⟩)
            go_ret
            exact ⟨rfl, by (repeat (first | exact Bel.refl _ | assumption | refine Bel.drew ?_ | refine Bel.drewN ?_ _ | refine Bel.alloc ?_ _ | refine Bel.setCell ?_ (by first | omega | (simp; done) | (simp; omega) | (simp at *; omega)) _ | refine Bel.trans ?_ (by assumption)))⟩
        · clear hadd hz
          (go_enter Try.func8, Try.ntmps8; go_wp2_with fail; refine (rWeight_any a b _ _).mono ?_; rintro e w1 ⟨rfl, rfl⟩; rw [HT.out, HF.out]; go_wp2_with fail; refine (wWeight_any a b _ _).mono ?_; rintro e w1 ⟨rfl, hb1⟩; rw [HT.out, HF.out]; obtain ⟨c1, c2, c3, c4, c5⟩ := held5 hb1; go_wp2_with fail; refine (wAfter_any a b x y true _).mono ?_; rintro e w2 ⟨rfl, hb2⟩; rw [HU.out, HV.out, HG.out]; clear c1 c2 c3 c4 c5; obtain ⟨c1, c2, c3, c4, c5⟩ := held5 (hb1.trans hb2); go_wp2_with fail; refine (wAfter_any a b x y false _).mono ?_; rintro e w3 ⟨rfl, hb3⟩; rw [HM.out, HN.out, HG.out]; clear c1 c2 c3 c4 c5; obtain ⟨c1, c2, c3, c4, c5⟩ := held5 ((hb1.trans hb2).trans hb3))
          go_wp2_with (go_at_call 26; refine (known_any _).mono ?_; rintro e w7 ⟨rfl, hb7⟩)
          go_ret
          exact ⟨rfl, by (repeat (first | exact Bel.refl _ | assumption | refine Bel.drew ?_ | refine Bel.drewN ?_ _ | refine Bel.alloc ?_ _ | refine Bel.setCell ?_ (by first | omega | (simp; done) | (simp; omega) | (simp at *; omega)) _ | refine Bel.trans ?_ (by assumption)))⟩
    · clear hadd hqb
      (go_enter Try.func8, Try.ntmps8; go_wp2_with fail; refine (rWeight_any a b _ _).mono ?_; rintro e w1 ⟨rfl, rfl⟩; rw [HT.out, HF.out]; go_wp2_with fail; refine (wWeight_any a b _ _).mono ?_; rintro e w1 ⟨rfl, hb1⟩; rw [HT.out, HF.out]; obtain ⟨c1, c2, c3, c4, c5⟩ := held5 hb1; go_wp2_with fail; refine (wAfter_any a b x y true _).mono ?_; rintro e w2 ⟨rfl, hb2⟩; rw [HU.out, HV.out, HG.out]; clear c1 c2 c3 c4 c5; obtain ⟨c1, c2, c3, c4, c5⟩ := held5 (hb1.trans hb2); go_wp2_with fail; refine (wAfter_any a b x y false _).mono ?_; rintro e w3 ⟨rfl, hb3⟩; rw [HM.out, HN.out, HG.out]; clear c1 c2 c3 c4 c5; obtain ⟨c1, c2, c3, c4, c5⟩ := held5 ((hb1.trans hb2).trans hb3))
      go_wp2_with (go_at_call 26; refine (known_any _).mono ?_; rintro e w7 ⟨rfl, hb7⟩)
      go_ret
      exact ⟨rfl, by (repeat (first | exact Bel.refl _ | assumption | refine Bel.drew ?_ | refine Bel.drewN ?_ _ | refine Bel.alloc ?_ _ | refine Bel.setCell ?_ (by first | omega | (simp; done) | (simp; omega) | (simp at *; omega)) _ | refine Bel.trans ?_ (by assumption)))⟩
  · clear hadd hqb hw0
    (go_enter Try.func8, Try.ntmps8; go_wp2_with fail; refine (rWeight_any a b _ _).mono ?_; rintro e w1 ⟨rfl, rfl⟩; rw [HT.out, HF.out]; go_wp2_with fail; refine (wWeight_any a b _ _).mono ?_; rintro e w1 ⟨rfl, hb1⟩; rw [HT.out, HF.out]; obtain ⟨c1, c2, c3, c4, c5⟩ := held5 hb1; go_wp2_with fail; refine (wAfter_any a b x y true _).mono ?_; rintro e w2 ⟨rfl, hb2⟩; rw [HU.out, HV.out, HG.out]; clear c1 c2 c3 c4 c5; obtain ⟨c1, c2, c3, c4, c5⟩ := held5 (hb1.trans hb2); go_wp2_with fail; refine (wAfter_any a b x y false _).mono ?_; rintro e w3 ⟨rfl, hb3⟩; rw [HM.out, HN.out, HG.out]; clear c1 c2 c3 c4 c5; obtain ⟨c1, c2, c3, c4, c5⟩ := held5 ((hb1.trans hb2).trans hb3))
    go_wp2_with (go_at_call 26; refine (known_any _).mono ?_; rintro e w7 ⟨rfl, hb7⟩)
    go_ret
    exact ⟨rfl, by (repeat (first | exact Bel.refl _ | assumption | refine Bel.drew ?_ | refine Bel.drewN ?_ _ | refine Bel.alloc ?_ _ | refine Bel.setCell ?_ (by first | omega | (simp; done) | (simp; omega) | (simp at *; omega)) _ | refine Bel.trans ?_ (by assumption)))⟩

set_option maxRecDepth 100000 in
theorem lifted (os : Os) (started : os.Started) (H : Type) (enc : TypeId × Value → H) :
    ReturnsInHanded {} Try.checked os 8 .any (Rows.judgeWeightsSpec.pre6 enc Try.prog Try.f8 Rows.judgeWeightsRow.domain false) (Rows.judgeWeightsSpec.post enc Try.prog Try.f8 false true false false) := by
  refine returnsInHanded_of_change_sized (C := Try.checked) own started (by kernel_rfl) Try.func8
    (ChangeSpec.witness6 (enc := enc) (C := Try.checked) false ⟨#[], #[.agg #[.int .i64 0, .int .i64 0], .agg #[.int .i64 0, .int .i64 0, .bool false], .int .i64 0], []⟩ 8 (by kernel_rfl) (by kernel_rfl) (by kernel_rfl) (by kernel_rfl)) ?_
  intro W base args ds gs before hval0 hW hcnd hsz0 _
  have hval : ∀ (j : Nat) t v, Try.f8.params[j]? = some t → args[j]? = some v → Value.okWide Try.prog W .any base t v := hval0
  have hsz : (DataW.weightsEach Try.prog (Try.f8.params.toList ++ Rows.judgeWeightsSpec.plain.varTypes Try.prog) (ds ++ gs)).all (· ≤ reachBytes) = true := hsz0
  have hW' := hW
  obtain ⟨p, q, hA0, hV, rfl, hfz, hnd⟩ := hW
  have hA : DataW.TrodAll enc Try.prog W 0 (fun _ => true) true Try.f8.params.toList args.toList ds p := hA0
  rw [Try.params8] at hA hval hsz
  obtain ⟨v0, vs0, d0, ds0, p0, q0, hargs, rfl, rfl, h0, r0⟩ := trodAll_cons hA
  obtain ⟨v1, vs1, d1, ds1, p1, q1, rfl, rfl, rfl, h1, r1⟩ := trodAll_cons r0
  obtain ⟨v2, vs2, d2, ds2, p2, q2, rfl, rfl, rfl, h2, r2⟩ := trodAll_cons r1
  obtain ⟨rfl, rfl, rfl⟩ := trodAll_nil r2
  obtain rfl : args = #[v0, v1, v2] := by cases args; simp_all
  obtain ⟨rfl, rfl⟩ := trodVars_none hV
  have k0 := h0
  have lt0 : ∀ x ∈ p0, x.block < W.heap.size := by obtain ⟨m, hm⟩ := k0; exact DataW.trod_lt m _ _ _ hm
  have k1 := h1
  have lt1 : ∀ x ∈ p1, x.block < W.heap.size := by obtain ⟨m, hm⟩ := k1; exact DataW.trod_lt m _ _ _ hm
  have k2 := h2
  have lt2 : ∀ x ∈ p2, x.block < W.heap.size := by obtain ⟨m, hm⟩ := k2; exact DataW.trod_lt m _ _ _ hm
  obtain ⟨x0, y0, rfl⟩ := open_state (hval 0 28 v0 rfl rfl) h0
  obtain ⟨x1, y1, z1, rfl⟩ := open_ask (hval 1 30 v1 rfl rfl) h1
  obtain ⟨x2, rfl, rfl, rfl, w2⟩ := open_int Try.underlying3 (hval 2 3 v2 rfl rfl) h2
  clear hA0 hval0
  refine (walk x0 y0 x1 y1 z1 x2 W ).mono fun e W' ⟨he, bel⟩ => ?_
  subst he
  exact ⟨_, rfl, _, _, _, [], _, [], hW', trodAll_mk1 (shut_bool Try.underlying4 _), trodAll_cons_mk (Below.trod laidOut (by kernel_rfl) (of_decide_eq_true (by kernel_rfl)) k0 bel lt0) (trodAll_cons_mk (Below.trod laidOut (by kernel_rfl) (of_decide_eq_true (by kernel_rfl)) k1 bel lt1) (trodAll_cons_mk (shut_int Try.underlying3 w2) (trodAll_mk0))), rfl, Below.frame bel _, fun h => by cases h⟩

theorem over : Rows.judgeWeightsRow.holds Try.pinned (OpenSpec.ofChange Rows.judgeWeightsSpec) :=
  OpenClaim.holds_of_wide 8 Try.f8 rfl rfl rfl rfl rfl rfl rfl ⟨rfl, rfl, rfl, rfl, rfl⟩ rfl rfl rfl rfl rfl (by kernel_rfl) Try.func8 (by kernel_rfl)
    (of_decide_eq_true (by kernel_rfl)) (by unfold Func.isWrapper; rw [if_neg (of_decide_eq_false (by kernel_rfl))]; exact ⟨rfl, rfl⟩)
    (fun os started H enc _ => lifted os started H enc)

/-- The statement. -/
theorem proved : Rows.JudgeWeightsSaid := over
end Go.Proofs.Ytogeackcnmeooaa.judgeWeights
