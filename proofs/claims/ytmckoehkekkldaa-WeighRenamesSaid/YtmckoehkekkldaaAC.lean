/- Answers of the document. -/
import Derived.Test.YtmckoehkekkldaaAB
namespace Go.Proofs.Ytmckoehkekkldaa
open Go.RowKit

set_option maxRecDepth 100000 in
set_option maxHeartbeats 4000000 in
theorem rAnswers_any (lo : Nat) (n : Int) (A : Option Addr) (m c : Nat) (P : List Wg) (x y : Int) (w : World) (hR : Plan lo w A P) (hm : P.length = m) :
    Calls Try.prog 41 #[.int .i64 n, .slice A m c, .agg #[.int .i64 x, .int .i64 y]] w (AnsR w n P x y) := by
  have Hm := Lib.hid hm
  have hb0 : Bel w ((w.alloc (.cells #[.int .i64 x, .int .i64 y] 24)).alloc (.cells #[.int .i64 x, .int .i64 y] 24)) := by (repeat (first | exact Bel.refl _ | assumption | refine Bel.drew ?_ | refine Bel.drewN ?_ _ | refine Bel.alloc ?_ _ | refine Bel.setCell ?_ (by first | omega | (simp; done) | (simp; omega) | (simp at *; omega)) _ | refine Bel.trans ?_ (by assumption)))
  have HP1 : Hid (Prs ((w.alloc (.cells #[.int .i64 x, .int .i64 y] 24)).alloc (.cells #[.int .i64 x, .int .i64 y] 24)) (some ⟨w.heap.size + 1, 0, none⟩) [(x, y)]) := by
    have := prs_lit1 (W := w.alloc (.cells #[.int .i64 x, .int .i64 y] 24)) (x := x) (y := y) (t := 24) (Bel.refl _)
    rw [World.size_alloc] at this
    exact this
  by_cases hE : errC n P [(x, y)] = 0
  · obtain ⟨n', x', rfl, rfl, hxn, hy, hG⟩ := case_good hE
    have HE := Lib.hid hE
    have HV : Hid (ansV (n' : Int) P (x' : Int) y = timesL (markL P (x' : Int)) y) := by show _ = _; unfold ansV; rw [if_pos hE]
    have hm3 : m ≤ 3 := by rw [← hm]; exact hG.few
    have HGo := Lib.hid hG
    have HLM : Hid ((markL P (x' : Int)).length = m) := by show _ = _; rw [markL_length]; exact hm
    have HLT : Hid ((timesL (markL P (x' : Int)) y).length = m) := by show _ = _; rw [timesL_length, markL_length]; exact hm
    have HBD := Lib.hid (mark_bd P (x' : Int) y (by rcases hy with h | h; exact .inl h; exact .inr (.inl h)))
    have Held := Lib.hid (fun w' (h : Bel (w.alloc (.cells #[.int .i64 (x' : Int), .int .i64 y] 24)) w') => box_case h)
    clear hE hm hG
    go_enter Try.func41, Try.ntmps41
    go_wp2_with fail
    refine (rCased_any lo _ A m c P (some ⟨w.heap.size + 1, 0, none⟩) 1 1 [((x' : Int), y)] _ (hR.bel hb0) Hm.out HP1.out rfl (by decide)).mono ?_
    rintro e w1 ⟨rfl, hb1⟩
    rw [HE.out]
    have hbA : Bel (w.alloc (.cells #[.int .i64 (x' : Int), .int .i64 y] 24)) w1 := by (repeat (first | exact Bel.refl _ | assumption | refine Bel.drew ?_ | refine Bel.drewN ?_ _ | refine Bel.alloc ?_ _ | refine Bel.setCell ?_ (by first | omega | (simp; done) | (simp; omega) | (simp at *; omega)) _ | refine Bel.trans ?_ (by assumption)))
    have hbw : Bel w w1 := hb0.trans hb1
    obtain ⟨q0, q1⟩ := Held.out w1 hbA
    have hR1 := hR.bel hbw
    clear hb0 hR
    go_wp2
    go_region_held3 (fun w' => Bel w w' ∧ w'.cell? ⟨w.heap.size, 0, none⟩ = some (.int .i64 (x' : Int)) ∧ w'.cell? ⟨w.heap.size, 1, none⟩ = some (.int .i64 y)) (exact ⟨by (repeat (first | exact Bel.refl _ | assumption | refine Bel.drew ?_ | refine Bel.drewN ?_ _ | refine Bel.alloc ?_ _ | refine Bel.setCell ?_ (by first | omega | (simp; done) | (simp; omega) | (simp at *; omega)) _ | refine Bel.trans ?_ (by assumption))), Held.out _ (by (repeat (first | exact Bel.refl _ | assumption | refine Bel.drew ?_ | refine Bel.drewN ?_ _ | refine Bel.alloc ?_ _ | refine Bel.setCell ?_ (by first | omega | (simp; done) | (simp; omega) | (simp at *; omega)) _ | refine Bel.trans ?_ (by assumption))))⟩) (first | (go_at_call 77; refine (rMark_any lo n' A m c P (x' : Int) _ (hR1.bel (by (repeat (first | exact Bel.refl _ | assumption | refine Bel.drew ?_ | refine Bel.drewN ?_ _ | refine Bel.alloc ?_ _ | refine Bel.setCell ?_ (by first | omega | (simp; done) | (simp; omega) | (simp at *; omega)) _ | refine Bel.trans ?_ (by assumption))))) Hm.out HGo.out).mono ?_; rintro e w2 ⟨v2, rfl, hO2, hb2⟩; obtain ⟨A2, n2, c2, rfl, hn2, hI2⟩ := hO2.form; have HN2 := Lib.hid hn2; clear hn2 hO2) | (go_at_call 76; refine (rTimes_any A2 n2 c2 _ y _ (hI2.bel (by (repeat (first | exact Bel.refl _ | assumption | refine Bel.drew ?_ | refine Bel.drewN ?_ _ | refine Bel.alloc ?_ _ | refine Bel.setCell ?_ (by first | omega | (simp; done) | (simp; omega) | (simp at *; omega)) _ | refine Bel.trans ?_ (by assumption))))) HN2.out.symm (by rw [HN2.out, HLM.out]; omega) HBD.out).mono ?_; rintro e w4 ⟨v4, rfl, hO4, hb4⟩))
    all_goals
      obtain ⟨A4, n4, c4, rfl, hn4, hI4⟩ := hO4.form
      have hn4' : n4 = m := by rw [hn4]; exact HLT.out
      have HI := Lib.hid hI4; have HN4 := Lib.hid hn4'
      have HB := Lib.hid (show Bel w w4 by (repeat (first | exact Bel.refl _ | assumption | refine Bel.drew ?_ | refine Bel.drewN ?_ _ | refine Bel.alloc ?_ _ | refine Bel.setCell ?_ (by first | omega | (simp; done) | (simp; omega) | (simp at *; omega)) _ | refine Bel.trans ?_ (by assumption))))
      clear hO4 hI4 hn4 hn4'
      go_wp2
      exact bodyPost_ret (v := .tuple #[.slice A4 n4 c4, .int .i64 0]) (by simp [results, Try.results41, go_sem]) rfl ⟨A4, n4, c4, by rw [HE.out], HB.out, by rw [HV.out]; exact HI.out, by rw [HV.out, HLT.out]; exact HN4.out.symm, by rw [HN4.out]; exact hm3⟩
  · have hE' : (errC n P [(x, y)] != 0) = true := by simpa using hE
    have HV : Hid (ansV n P x y = []) := by show _ = _; unfold ansV; rw [if_neg hE]
    obtain ⟨v, hv⟩ : ∃ v, v = errC n P [(x, y)] := ⟨_, rfl⟩
    have HE := Lib.hid hv
    rw [← hv] at hE hE'
    clear hm hv
    go_enter Try.func41, Try.ntmps41
    go_wp2_with fail
    refine (rCased_any lo _ A m c P (some ⟨w.heap.size + 1, 0, none⟩) 1 1 [(x, y)] _ (hR.bel hb0) Hm.out HP1.out rfl (by decide)).mono ?_
    rintro e w1 ⟨rfl, hb1⟩
    rw [← HE.out]
    have HB := Lib.hid (hb0.trans hb1)
    go_wp2
    exact bodyPost_ret (v := .tuple #[.slice none 0 0, .int .i64 v]) (by simp [results, Try.results41, go_sem]) rfl ⟨none, 0, 0, by rw [← HE.out], HB.out, by rw [HV.out]; exact .inl rfl, by rw [HV.out]; rfl, by decide⟩
end Go.Proofs.Ytmckoehkekkldaa
