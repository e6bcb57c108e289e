/- Answers of both. -/
import Derived.Test.YtmckoehkekkldaaAA
namespace Go.Proofs.Ytmckoehkekkldaa
open Go.RowKit

theorem ans_list {P : List Wg} (x y : Int) : listL (ansN P x y) P.length = timesL (markL P x) y := by
  rw [← listL_mark]
  unfold listL timesL
  rw [List.map_map]
  congr 1
  funext k
  simp [ansN, Int.mul_comm]
theorem timesL_length (l : List Int) (y : Int) : (timesL l y).length = l.length := by simp [timesL]
/-- The answers to a case, or none where it is wrong. -/
def ansV (n : Int) (P : List Wg) (x y : Int) : List Int := if errC n P [(x, y)] = 0 then timesL (markL P x) y else []
theorem case_good {n : Int} {P : List Wg} {x y : Int} (h : errC n P [(x, y)] = 0) : ∃ (n' x' : Nat), n = (n' : Int) ∧ x = (x' : Int) ∧ x' < n' ∧ (y = 1 ∨ y = -1) ∧ Good n' P := by
  obtain ⟨h1, h2, h3⟩ := errC_zero h
  obtain ⟨n', rfl, hG⟩ := errV_good h1
  simp only [List.all_cons, List.all_nil, Bool.and_true, lotOk, wayOk, decide_eq_true_eq] at h2 h3
  obtain ⟨x', rfl⟩ := Int.eq_ofNat_of_zero_le h2.1
  exact ⟨n', x', rfl, rfl, by omega, h3, hG⟩
theorem prs_lit1 {W w' : World} {x y : Int} {t : TypeId} (h : Bel (W.alloc (.cells #[.int .i64 x, .int .i64 y] t)) w') : Prs w' (some ⟨W.heap.size, 0, none⟩) [(x, y)] := by
  refine Prs.bel (.inr ⟨_, 0, rfl, by simp, fun j s m hj => ?_⟩) h
  match j, hj with
  | 0, hj =>
    simp at hj
    obtain ⟨rfl, rfl⟩ := hj
    exact ⟨by simp, by simp⟩
/-- What Answers returns. -/
def AnsR (w : World) (n : Int) (P : List Wg) (x y : Int) (e : Ending) (w' : World) : Prop :=
  ∃ A' n' c', e = .returned (.tuple #[.slice A' n' c', .int .i64 (errC n P [(x, y)])]) ∧ Bel w w' ∧ Ints w' A' (ansV n P x y) ∧ (ansV n P x y).length = n' ∧ n' ≤ 3
set_option maxRecDepth 100000 in
set_option maxHeartbeats 4000000 in
theorem answers_any (lo : Nat) (n : Int) (A : Option Addr) (m c : Nat) (P : List Wg) (x y : Int) (w : World) (hR : Plan lo w A P) (hm : P.length = m) :
    Calls Try.prog 42 #[.int .i64 n, .slice A m c, .agg #[.int .i64 x, .int .i64 y]] w (AnsR w n P x y) := by
  have Hm := Lib.hid hm
  have hb0 : Bel w ((w.alloc (.cells #[.int .i64 x, .int .i64 y] 24)).alloc (.cells #[.int .i64 x, .int .i64 y] 24)) := by (repeat (first | exact Bel.refl _ | assumption | refine Bel.drew ?_ | refine Bel.drewN ?_ _ | refine Bel.alloc ?_ _ | refine Bel.setCell ?_ (by first | omega | (simp; done) | (simp; omega) | (simp at *; omega)) _ | refine Bel.trans ?_ (by assumption)))
  have HP1 : Hid (Prs ((w.alloc (.cells #[.int .i64 x, .int .i64 y] 24)).alloc (.cells #[.int .i64 x, .int .i64 y] 24)) (some ⟨w.heap.size + 1, 0, none⟩) [(x, y)]) := by
    have := prs_lit1 (W := w.alloc (.cells #[.int .i64 x, .int .i64 y] 24)) (x := x) (y := y) (t := 24) (Bel.refl _)
    rw [World.size_alloc] at this
    exact this
  by_cases hE : errC n P [(x, y)] = 0
  · obtain ⟨n', x', rfl, rfl, hxn, hy, hG⟩ := case_good hE
    have HE := Lib.hid hE
    have HV : Hid (ansV (n' : Int) P (x' : Int) y = listL (ansN P (x' : Int) y) m) := by show _ = _; unfold ansV; rw [if_pos hE, ← hm, ans_list]
    have hm3 : m ≤ 3 := by rw [← hm]; exact hG.few
    have HGo := Lib.hid hG
    have Held := Lib.hid (fun w' (h : Bel (w.alloc (.cells #[.int .i64 (x' : Int), .int .i64 y] 24)) w') => box_case h)
    clear hE hm hG
    go_enter Try.func42, Try.ntmps42
    go_wp2_with fail
    refine (vcases_any lo _ A m c P (some ⟨w.heap.size + 1, 0, none⟩) 1 1 [((x' : Int), y)] _ (hR.bel hb0) Hm.out HP1.out rfl (by decide)).mono ?_
    rintro e w1 ⟨rfl, hb1⟩
    rw [HE.out]
    have hbA : Bel (w.alloc (.cells #[.int .i64 (x' : Int), .int .i64 y] 24)) w1 := by (repeat (first | exact Bel.refl _ | assumption | refine Bel.drew ?_ | refine Bel.drewN ?_ _ | refine Bel.alloc ?_ _ | refine Bel.setCell ?_ (by first | omega | (simp; done) | (simp; omega) | (simp at *; omega)) _ | refine Bel.trans ?_ (by assumption)))
    have hbw : Bel w w1 := hb0.trans hb1
    obtain ⟨q0, q1⟩ := Held.out w1 hbA
    have hR1 := hR.bel hbw
    clear hb0 hR
    go_wp2
    go_region_held3 (fun w' => Bel w w' ∧ w'.cell? ⟨w.heap.size, 0, none⟩ = some (.int .i64 (x' : Int)) ∧ w'.cell? ⟨w.heap.size, 1, none⟩ = some (.int .i64 y)) (exact ⟨by (repeat (first | exact Bel.refl _ | assumption | refine Bel.drew ?_ | refine Bel.drewN ?_ _ | refine Bel.alloc ?_ _ | refine Bel.setCell ?_ (by first | omega | (simp; done) | (simp; omega) | (simp at *; omega)) _ | refine Bel.trans ?_ (by assumption))), Held.out _ (by (repeat (first | exact Bel.refl _ | assumption | refine Bel.drew ?_ | refine Bel.drewN ?_ _ | refine Bel.alloc ?_ _ | refine Bel.setCell ?_ (by first | omega | (simp; done) | (simp; omega) | (simp at *; omega)) _ | refine Bel.trans ?_ (by assumption))))⟩) (first | (go_at_call 80; refine (marksOf_any lo n' A m c P _ (hR1.bel (by (repeat (first | exact Bel.refl _ | assumption | refine Bel.drew ?_ | refine Bel.drewN ?_ _ | refine Bel.alloc ?_ _ | refine Bel.setCell ?_ (by first | omega | (simp; done) | (simp; omega) | (simp at *; omega)) _ | refine Bel.trans ?_ (by assumption))))) Hm.out HGo.out).mono ?_; rintro e w2 ⟨gm, rfl, hgm, hb2, hM⟩) | (go_at_call 79; refine (answersTo_any gm n' n' x' y P _ ?_ hxn hy).mono ?_; exact Row.bel hM (by (repeat (first | exact Bel.refl _ | assumption | refine Bel.drew ?_ | refine Bel.drewN ?_ _ | refine Bel.alloc ?_ _ | refine Bel.setCell ?_ (by first | omega | (simp; done) | (simp; omega) | (simp at *; omega)) _ | refine Bel.trans ?_ (by assumption)))); rintro e w3 ⟨rfl, hb3⟩) | (go_at_call 81; refine (list_any (ansN P (x' : Int) y) m _ hm3).mono ?_; rintro e w4 ⟨v4, rfl, hO4, hb4⟩))
    all_goals
      obtain ⟨A4, n4, c4, rfl, hn4, hI4⟩ := hO4.form
      have hn4' : n4 = m := by rw [hn4]; simp [listL]
      have HI := Lib.hid hI4; have HN4 := Lib.hid hn4'
      have HB := Lib.hid (show Bel w w4 by (repeat (first | exact Bel.refl _ | assumption | refine Bel.drew ?_ | refine Bel.drewN ?_ _ | refine Bel.alloc ?_ _ | refine Bel.setCell ?_ (by first | omega | (simp; done) | (simp; omega) | (simp at *; omega)) _ | refine Bel.trans ?_ (by assumption))))
      clear hO4 hI4 hn4 hn4'
      go_wp2
      exact bodyPost_ret (v := .tuple #[.slice A4 n4 c4, .int .i64 0]) (by simp [results, Try.results42, go_sem]) rfl ⟨A4, n4, c4, by rw [HE.out], HB.out, by rw [HV.out]; exact HI.out, by rw [HV.out, HN4.out]; simp [listL], by rw [HN4.out]; exact hm3⟩
  · have hE' : (errC n P [(x, y)] != 0) = true := by simpa using hE
    have HV : Hid (ansV n P x y = []) := by show _ = _; unfold ansV; rw [if_neg hE]
    obtain ⟨v, hv⟩ : ∃ v, v = errC n P [(x, y)] := ⟨_, rfl⟩
    have HE := Lib.hid hv
    rw [← hv] at hE hE'
    clear hm hv
    go_enter Try.func42, Try.ntmps42
    go_wp2_with fail
    refine (vcases_any lo _ A m c P (some ⟨w.heap.size + 1, 0, none⟩) 1 1 [(x, y)] _ (hR.bel hb0) Hm.out HP1.out rfl (by decide)).mono ?_
    rintro e w1 ⟨rfl, hb1⟩
    rw [← HE.out]
    have HB := Lib.hid (hb0.trans hb1)
    go_wp2
    exact bodyPost_ret (v := .tuple #[.slice none 0 0, .int .i64 v]) (by simp [results, Try.results42, go_sem]) rfl ⟨none, 0, 0, by rw [← HE.out], HB.out, by rw [HV.out]; exact .inl rfl, by rw [HV.out]; rfl, by decide⟩
end Go.Proofs.Ytmckoehkekkldaa
