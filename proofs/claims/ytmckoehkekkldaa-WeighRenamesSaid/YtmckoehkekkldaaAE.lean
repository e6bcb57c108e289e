/- CheckBad of the document. -/
import Derived.Test.YtmckoehkekkldaaAC
import Derived.Test.YtmckoehkekkldaaAD
namespace Go.Proofs.Ytmckoehkekkldaa
open Go.RowKit

theorem ansL_at (P : List Wg) (x y : Int) (k : Nat) : (timesL (markL P x) y)[k]? = if k < P.length then some (ansN P x y k) else none := by
  unfold timesL
  rw [List.getElem?_map, markL_at]
  split
  · simp only [Option.map_some, ansN, Int.mul_comm]
  · rfl
theorem ansN_out {P : List Wg} {k : Nat} (h : P.length ≤ k) (x y : Int) : ansN P x y k = 0 := by
  unfold ansN
  rw [markN_out h]
  omega
theorem ans_same {P : List Wg} (h3 : P.length ≤ 3) (x y u v : Int) : decide (timesL (markL P x) y = timesL (markL P u) v) = eq3 (ansN P x y) (ansN P u v) := by
  rw [Bool.eq_iff_iff, decide_eq_true_iff, eq3_iff]
  constructor
  · intro h
    have each : ∀ k, ansN P x y k = ansN P u v k := by
      intro k
      by_cases hk : k < P.length
      · have h1 := ansL_at P x y k
        rw [h, ansL_at, if_pos hk, if_pos hk] at h1
        injection h1 with h1
        exact h1.symm
      · rw [ansN_out (by omega), ansN_out (by omega)]
    exact ⟨each 0, each 1, each 2⟩
  · rintro ⟨h0, h1, h2⟩
    apply List.ext_getElem?
    intro k
    rw [ansL_at, ansL_at]
    split
    · rcases (by omega : k = 0 ∨ k = 1 ∨ k = 2) with rfl | rfl | rfl
      · rw [h0]
      · rw [h1]
      · rw [h2]
    · rfl
theorem ans_blank {P : List Wg} (h3 : P.length ≤ 3) (x y : Int) : blankB (timesL (markL P x) y) = eq3 (ansN P x y) (fun _ => 0) := by
  rw [Bool.eq_iff_iff, eq3_iff]
  unfold blankB
  rw [List.all_eq_true]
  constructor
  · intro h
    have each : ∀ k, ansN P x y k = 0 := by
      intro k
      by_cases hk : k < P.length
      · have := h (ansN P x y k) (List.mem_of_getElem? (i := k) (by rw [ansL_at, if_pos hk]))
        simpa using this
      · exact ansN_out (by omega) x y
    exact ⟨each 0, each 1, each 2⟩
  · rintro ⟨h0, h1, h2⟩ v hv
    obtain ⟨k, hk⟩ := List.mem_iff_getElem?.1 hv
    rw [ansL_at] at hk
    split at hk
    · injection hk with hk
      subst hk
      rcases (by omega : k = 0 ∨ k = 1 ∨ k = 2) with rfl | rfl | rfl
      · simpa using h0
      · simpa using h1
      · simpa using h2
    · cases hk
theorem hbA_of {a b : World} (h : Bel a.drew b) : Bel a b := ((Bel.refl a).drew).trans h
set_option maxRecDepth 100000 in
set_option maxHeartbeats 4000000 in
theorem rCheckBad_any (lo : Nat) (n : Int) (A : Option Addr) (m c : Nat) (P : List Wg) (x y u v : Int) (w : World) (hR : Plan lo w A P) (hm : P.length = m) :
    Calls Try.prog 58 #[.int .i64 n, .slice A m c, .agg #[.int .i64 x, .int .i64 y], .agg #[.int .i64 u, .int .i64 v]] w fun e w' => e = .returned (.int .i64 (errB n P x y u v)) ∧ Bel w w' := by
  have Hm := Lib.hid hm
  have hb0 : Bel w (((w.alloc (.cells #[.int .i64 x, .int .i64 y] 24)).alloc (.cells #[.int .i64 u, .int .i64 v] 24)).alloc (.cells #[.int .i64 x, .int .i64 y, .int .i64 u, .int .i64 v] 24)) := by (repeat (first | exact Bel.refl _ | assumption | refine Bel.drew ?_ | refine Bel.drewN ?_ _ | refine Bel.alloc ?_ _ | refine Bel.setCell ?_ (by first | omega | (simp; done) | (simp; omega) | (simp at *; omega)) _ | refine Bel.trans ?_ (by assumption)))
  have HP1 : Hid (Prs (((w.alloc (.cells #[.int .i64 x, .int .i64 y] 24)).alloc (.cells #[.int .i64 u, .int .i64 v] 24)).alloc (.cells #[.int .i64 x, .int .i64 y, .int .i64 u, .int .i64 v] 24)) (some ⟨w.heap.size + 1 + 1, 0, none⟩) [(x, y), (u, v)]) := by
    have := prs_lit2 (W := (w.alloc (.cells #[.int .i64 x, .int .i64 y] 24)).alloc (.cells #[.int .i64 u, .int .i64 v] 24)) (x := x) (y := y) (u := u) (v := v) (t := 24) (Bel.refl _)
    rw [World.size_alloc, World.size_alloc] at this
    exact this
  by_cases hE : errC n P [(x, y), (u, v)] = 0
  · obtain ⟨n', x', u', rfl, rfl, rfl, hxn, hun, hy, hv, hG⟩ := cases_good hE
    have HE := Lib.hid hE
    have HV : Hid (errB (n' : Int) P (x' : Int) y (u' : Int) v = if badB P (x' : Int) y (u' : Int) v = true then 0 else 7) := by show _ = _; unfold errB; rw [if_pos hE]
    have HGo := Lib.hid hG
    have h3 := hG.few
    have HS := Lib.hid (ans_same h3 (x' : Int) y (u' : Int) v)
    have HBK := Lib.hid (ans_blank h3 (x' : Int) y)
    have hm3 : m ≤ 3 := by rw [← hm]; exact hG.few
    have HLX : Hid ((markL P (x' : Int)).length = m) := by show _ = _; rw [markL_length]; exact hm
    have HLU : Hid ((markL P (u' : Int)).length = m) := by show _ = _; rw [markL_length]; exact hm
    have HTX : Hid ((timesL (markL P (x' : Int)) y).length = m) := by show _ = _; rw [timesL_length, markL_length]; exact hm
    have HTU : Hid ((timesL (markL P (u' : Int)) v).length = m) := by show _ = _; rw [timesL_length, markL_length]; exact hm
    have HBX := Lib.hid (mark_bd P (x' : Int) y (by rcases hy with h | h; exact .inl h; exact .inr (.inl h)))
    have HBU := Lib.hid (mark_bd P (u' : Int) v (by rcases hv with h | h; exact .inl h; exact .inr (.inl h)))
    have hmx : m ≤ maxLen := by unfold maxLen; omega
    have HM100 := Lib.hid (show m ≤ 100 by omega)
    have Held : Hid (∀ w', Bel ((w.alloc (.cells #[.int .i64 (x' : Int), .int .i64 y] 24)).alloc (.cells #[.int .i64 (u' : Int), .int .i64 v] 24)) w' →
        (w'.cell? ⟨w.heap.size, 0, none⟩ = some (.int .i64 (x' : Int)) ∧ w'.cell? ⟨w.heap.size, 1, none⟩ = some (.int .i64 y)) ∧ w'.cell? ⟨w.heap.size + 1, 0, none⟩ = some (.int .i64 (u' : Int)) ∧ w'.cell? ⟨w.heap.size + 1, 1, none⟩ = some (.int .i64 v)) := fun w' h => by
      have h2 := box_case h
      rw [World.size_alloc] at h2
      exact ⟨box_case (((Bel.refl (w.alloc (.cells #[.int .i64 (x' : Int), .int .i64 y] 24))).alloc _).trans h), h2⟩
    clear hE hm hG h3
    go_enter Try.func58, Try.ntmps58
    go_wp2_with fail
    refine (rCased_any lo _ A m c P (some ⟨w.heap.size + 1 + 1, 0, none⟩) 2 2 [((x' : Int), y), ((u' : Int), v)] _ (hR.bel hb0) Hm.out HP1.out rfl (by decide)).mono ?_
    rintro e w1 ⟨rfl, hb1⟩
    rw [HE.out]
    have hbA : Bel ((w.alloc (.cells #[.int .i64 (x' : Int), .int .i64 y] 24)).alloc (.cells #[.int .i64 (u' : Int), .int .i64 v] 24)) w1 := by (repeat (first | exact Bel.refl _ | assumption | refine Bel.drew ?_ | refine Bel.drewN ?_ _ | refine Bel.alloc ?_ _ | refine Bel.setCell ?_ (by first | omega | (simp; done) | (simp; omega) | (simp at *; omega)) _ | refine Bel.trans ?_ (by assumption)))
    have hbw : Bel w w1 := hb0.trans hb1
    obtain ⟨⟨q0, q1⟩, q2, q3⟩ := Held.out w1 hbA
    have hR1 := hR.bel hbw
    clear hb0 hR
    go_wp2
    go_region_held3 (fun w' => Bel w w' ∧ (w'.cell? ⟨w.heap.size, 0, none⟩ = some (.int .i64 (x' : Int)) ∧ w'.cell? ⟨w.heap.size, 1, none⟩ = some (.int .i64 y)) ∧ w'.cell? ⟨w.heap.size + 1, 0, none⟩ = some (.int .i64 (u' : Int)) ∧ w'.cell? ⟨w.heap.size + 1, 1, none⟩ = some (.int .i64 v)) (exact ⟨by (repeat (first | exact Bel.refl _ | assumption | refine Bel.drew ?_ | refine Bel.drewN ?_ _ | refine Bel.alloc ?_ _ | refine Bel.setCell ?_ (by first | omega | (simp; done) | (simp; omega) | (simp at *; omega)) _ | refine Bel.trans ?_ (by assumption))), Held.out _ (by (repeat (first | exact Bel.refl _ | assumption | refine Bel.drew ?_ | refine Bel.drewN ?_ _ | refine Bel.alloc ?_ _ | refine Bel.setCell ?_ (by first | omega | (simp; done) | (simp; omega) | (simp at *; omega)) _ | refine Bel.trans ?_ (by assumption))))⟩) (first | (go_at_call_of 77 (Value.int IntKind.i64 (x' : Int)); refine (rMark_any lo n' A m c P (x' : Int) _ (hR1.bel (by (repeat (first | exact Bel.refl _ | assumption | refine Bel.drew ?_ | refine Bel.drewN ?_ _ | refine Bel.alloc ?_ _ | refine Bel.setCell ?_ (by first | omega | (simp; done) | (simp; omega) | (simp at *; omega)) _ | refine Bel.trans ?_ (by assumption))))) Hm.out HGo.out).mono ?_; rintro e w2 ⟨v2, rfl, hO2, hb2⟩; obtain ⟨A2, n2, c2, rfl, hn2, hI2⟩ := hO2.form; have HN2 := Lib.hid hn2; clear hn2 hO2) | (go_at_call_of 77 (Value.int IntKind.i64 (u' : Int)); refine (rMark_any lo n' A m c P (u' : Int) _ (hR1.bel (by (repeat (first | exact Bel.refl _ | assumption | refine Bel.drew ?_ | refine Bel.drewN ?_ _ | refine Bel.alloc ?_ _ | refine Bel.setCell ?_ (by first | omega | (simp; done) | (simp; omega) | (simp at *; omega)) _ | refine Bel.trans ?_ (by assumption))))) Hm.out HGo.out).mono ?_; rintro e w3 ⟨v3, rfl, hO3, hb3⟩; obtain ⟨A3, n3, c3, rfl, hn3, hI3⟩ := hO3.form; have HN3 := Lib.hid hn3; clear hn3 hO3) | (go_at_call_of 76 (Value.slice A2 n2 c2); refine (rTimes_any A2 n2 c2 _ y _ (hI2.bel (by (repeat (first | exact Bel.refl _ | assumption | refine Bel.drew ?_ | refine Bel.drewN ?_ _ | refine Bel.alloc ?_ _ | refine Bel.setCell ?_ (by first | omega | (simp; done) | (simp; omega) | (simp at *; omega)) _ | refine Bel.trans ?_ (by assumption))))) HN2.out.symm (by rw [HN2.out, HLX.out]; exact HM100.out) HBX.out).mono ?_; rintro e w4 ⟨v4, rfl, hO4, hb4⟩; obtain ⟨A4, n4, c4, rfl, hn4, hI4⟩ := hO4.form; have HN4 := Lib.hid hn4; clear hn4 hO4) | (go_at_call_of 76 (Value.slice A3 n3 c3); refine (rTimes_any A3 n3 c3 _ v _ (hI3.bel (by (repeat (first | exact Bel.refl _ | assumption | refine Bel.drew ?_ | refine Bel.drewN ?_ _ | refine Bel.alloc ?_ _ | refine Bel.setCell ?_ (by first | omega | (simp; done) | (simp; omega) | (simp at *; omega)) _ | refine Bel.trans ?_ (by assumption))))) HN3.out.symm (by rw [HN3.out, HLU.out]; exact HM100.out) HBU.out).mono ?_; rintro e w5 ⟨v5, rfl, hO5, hb5⟩; obtain ⟨A5, n5, c5, rfl, hn5, hI5⟩ := hO5.form; have HN5 := Lib.hid hn5; clear hn5 hO5))
    all_goals
      have hB5A : Bel ((w.alloc (.cells #[.int .i64 (x' : Int), .int .i64 y] 24)).alloc (.cells #[.int .i64 (u' : Int), .int .i64 v] 24)) w5 := hbA.trans (((hbA_of hb2).trans hb4).trans (hb3.trans hb5))
      have HBW := Lib.hid (hbw.trans (((hbA_of hb2).trans hb4).trans (hb3.trans hb5)))
      have hI45 := hI4.bel (hb3.trans hb5)
      have HN4' := Lib.hid (show n4 = m by rw [HN4.out, HTX.out])
      have HN5' := Lib.hid (show n5 = m by rw [HN5.out, HTU.out])
      obtain ⟨⟨k0, k1⟩, k2, k3⟩ := Held.out w5 hB5A
      by_cases hs : x' = u' ∧ y = v
      · obtain ⟨rfl, rfl⟩ := hs
        cases hbb : eq3 (ansN P (x' : Int) y) (fun _ => 0)
        all_goals
          have HX := Lib.hid (show errB (n' : Int) P (x' : Int) y (x' : Int) y = _ by rw [HV.out, badB_same, hbb])
          have HBB := Lib.hid hbb
          clear hbb
          go_wp2_with fail
          refine (rBlank_any A4 n4 c4 _ _ hI45 HN4.out.symm (by rw [HN4'.out]; exact hmx)).mono ?_
          rintro e w6 ⟨rfl, hw6⟩
          subst hw6
          rw [HBK.out, HBB.out]
          go_wp2
          go_ret
          exact ⟨ret_int HX.out.symm, HBW.out⟩
      · have hbd : badB P (x' : Int) y (u' : Int) v = eq3 (ansN P (x' : Int) y) (ansN P (u' : Int) v) := badB_diff P (by omega)
        cases hbb : eq3 (ansN P (x' : Int) y) (ansN P (u' : Int) v)
        all_goals
          have HX := Lib.hid (show errB (n' : Int) P (x' : Int) y (u' : Int) v = _ by rw [HV.out, hbd, hbb])
          have HBB := Lib.hid hbb
          by_cases hxu : x' = u'
          · subst hxu
            have hyv : ¬ y = v := by omega
            clear hbb hbd hs
            go_wp2_with fail
            refine (sameInts_all A4 A5 n4 c4 n5 c5 _ _ _ hI45 hI5 HN4.out.symm HN5.out.symm (by rw [HN4'.out]; exact hmx)).mono ?_
            rintro e w6 ⟨rfl, hb6⟩
            rw [HS.out, HBB.out]
            obtain ⟨⟨j0, j1⟩, j2, j3⟩ := Held.out w6 (hB5A.trans hb6)
            go_wp2
            go_ret
            exact ⟨ret_int HX.out.symm, HBW.out.trans hb6⟩
          · have hxu' : ¬ (x' : Int) = (u' : Int) := by omega
            clear hbb hbd hs
            go_wp2_with fail
            refine (sameInts_all A4 A5 n4 c4 n5 c5 _ _ _ hI45 hI5 HN4.out.symm HN5.out.symm (by rw [HN4'.out]; exact hmx)).mono ?_
            rintro e w6 ⟨rfl, hb6⟩
            rw [HS.out, HBB.out]
            obtain ⟨⟨j0, j1⟩, j2, j3⟩ := Held.out w6 (hB5A.trans hb6)
            go_wp2
            go_ret
            exact ⟨ret_int HX.out.symm, HBW.out.trans hb6⟩
  · have hE' : (errC n P [(x, y), (u, v)] != 0) = true := by simpa using hE
    have HV : Hid (errB n P x y u v = errC n P [(x, y), (u, v)]) := by show _ = _; unfold errB; rw [if_neg hE]
    obtain ⟨z, hz⟩ : ∃ z, z = errC n P [(x, y), (u, v)] := ⟨_, rfl⟩
    have HE := Lib.hid hz
    rw [← hz] at hE hE' HV
    clear hm hz
    go_enter Try.func58, Try.ntmps58
    go_wp2_with fail
    refine (rCased_any lo _ A m c P (some ⟨w.heap.size + 1 + 1, 0, none⟩) 2 2 [(x, y), (u, v)] _ (hR.bel hb0) Hm.out HP1.out rfl (by decide)).mono ?_
    rintro e w1 ⟨rfl, hb1⟩
    rw [← HE.out]
    have HB := Lib.hid (hb0.trans hb1)
    go_wp2
    go_ret
    exact ⟨ret_int HV.out.symm, HB.out⟩
end Go.Proofs.Ytmckoehkekkldaa
