/- CheckBad of both. -/
import Derived.Test.YtmckoehkekkldaaAB
namespace Go.Proofs.Ytmckoehkekkldaa
open Go.RowKit

/-- The error of a proof. -/
def errB (n : Int) (P : List Wg) (x y u v : Int) : Int := if errC n P [(x, y), (u, v)] = 0 then (if badB P x y u v = true then 0 else 7) else errC n P [(x, y), (u, v)]
theorem cases_good {n : Int} {P : List Wg} {x y u v : Int} (h : errC n P [(x, y), (u, v)] = 0) : ∃ (n' x' u' : Nat), n = (n' : Int) ∧ x = (x' : Int) ∧ u = (u' : Int) ∧ x' < n' ∧ u' < n' ∧ (y = 1 ∨ y = -1) ∧ (v = 1 ∨ v = -1) ∧ Good n' P := by
  obtain ⟨h1, h2, h3⟩ := errC_zero h
  obtain ⟨n', rfl, hG⟩ := errV_good h1
  simp only [List.all_cons, List.all_nil, Bool.and_true, Bool.and_eq_true, lotOk, wayOk, decide_eq_true_eq] at h2 h3
  obtain ⟨⟨a1, a2⟩, a3, a4⟩ := h2
  obtain ⟨x', rfl⟩ := Int.eq_ofNat_of_zero_le a1
  obtain ⟨u', rfl⟩ := Int.eq_ofNat_of_zero_le a3
  exact ⟨n', x', u', rfl, rfl, rfl, by omega, by omega, h3.1, h3.2, hG⟩
theorem prs_lit2 {W w' : World} {x y u v : Int} {t : TypeId} (h : Bel (W.alloc (.cells #[.int .i64 x, .int .i64 y, .int .i64 u, .int .i64 v] t)) w') : Prs w' (some ⟨W.heap.size, 0, none⟩) [(x, y), (u, v)] := by
  refine Prs.bel (.inr ⟨_, 0, rfl, by simp, fun j s m hj => ?_⟩) h
  match j, hj with
  | 0, hj =>
    simp at hj
    obtain ⟨rfl, rfl⟩ := hj
    exact ⟨by simp, by simp⟩
  | 1, hj =>
    simp at hj
    obtain ⟨rfl, rfl⟩ := hj
    exact ⟨by simp, by simp⟩
set_option maxRecDepth 100000 in
set_option maxHeartbeats 4000000 in
theorem checkBad_any (lo : Nat) (n : Int) (A : Option Addr) (m c : Nat) (P : List Wg) (x y u v : Int) (w : World) (hR : Plan lo w A P) (hm : P.length = m) :
    Calls Try.prog 57 #[.int .i64 n, .slice A m c, .agg #[.int .i64 x, .int .i64 y], .agg #[.int .i64 u, .int .i64 v]] w fun e w' => e = .returned (.int .i64 (errB n P x y u v)) ∧ Bel w w' := by
  have Hm := Lib.hid hm
  have hb0 : Bel w (((w.alloc (.cells #[.int .i64 x, .int .i64 y] 24)).alloc (.cells #[.int .i64 u, .int .i64 v] 24)).alloc (.cells #[.int .i64 x, .int .i64 y, .int .i64 u, .int .i64 v] 24)) := by (repeat (first | exact Bel.refl _ | assumption | refine Bel.drew ?_ | refine Bel.drewN ?_ _ | refine Bel.alloc ?_ _ | refine Bel.setCell ?_ (by first | omega | (simp; done) | (simp; omega) | (simp at *; omega)) _ | refine Bel.trans ?_ (by assumption)))
  have HP1 : Hid (Prs (((w.alloc (.cells #[.int .i64 x, .int .i64 y] 24)).alloc (.cells #[.int .i64 u, .int .i64 v] 24)).alloc (.cells #[.int .i64 x, .int .i64 y, .int .i64 u, .int .i64 v] 24)) (some ⟨w.heap.size + 1 + 1, 0, none⟩) [(x, y), (u, v)]) := by
    have := prs_lit2 (W := (w.alloc (.cells #[.int .i64 x, .int .i64 y] 24)).alloc (.cells #[.int .i64 u, .int .i64 v] 24)) (x := x) (y := y) (u := u) (v := v) (t := 24) (Bel.refl _)
    rw [World.size_alloc, World.size_alloc] at this
    exact this
  by_cases hE : errC n P [(x, y), (u, v)] = 0
  · obtain ⟨n', x', u', rfl, rfl, rfl, hxn, hun, hy, hv, hG⟩ := cases_good hE
    have HE := Lib.hid hE
    have HV : Hid (errB (n' : Int) P (x' : Int) y (u' : Int) v = if badB P (x' : Int) y (u' : Int) v = true then 0 else 7) := by show _ = _; unfold errB; rw [if_pos hE]
    have HGo := Lib.hid hG
    have Held : Hid (∀ w', Bel ((w.alloc (.cells #[.int .i64 (x' : Int), .int .i64 y] 24)).alloc (.cells #[.int .i64 (u' : Int), .int .i64 v] 24)) w' →
        (w'.cell? ⟨w.heap.size, 0, none⟩ = some (.int .i64 (x' : Int)) ∧ w'.cell? ⟨w.heap.size, 1, none⟩ = some (.int .i64 y)) ∧ w'.cell? ⟨w.heap.size + 1, 0, none⟩ = some (.int .i64 (u' : Int)) ∧ w'.cell? ⟨w.heap.size + 1, 1, none⟩ = some (.int .i64 v)) := fun w' h => by
      have h2 := box_case h
      rw [World.size_alloc] at h2
      exact ⟨box_case (((Bel.refl (w.alloc (.cells #[.int .i64 (x' : Int), .int .i64 y] 24))).alloc _).trans h), h2⟩
    clear hE hm hG
    go_enter Try.func57, Try.ntmps57
    go_wp2_with fail
    refine (vcases_any lo _ A m c P (some ⟨w.heap.size + 1 + 1, 0, none⟩) 2 2 [((x' : Int), y), ((u' : Int), v)] _ (hR.bel hb0) Hm.out HP1.out rfl (by decide)).mono ?_
    rintro e w1 ⟨rfl, hb1⟩
    rw [HE.out]
    have hbA : Bel ((w.alloc (.cells #[.int .i64 (x' : Int), .int .i64 y] 24)).alloc (.cells #[.int .i64 (u' : Int), .int .i64 v] 24)) w1 := by (repeat (first | exact Bel.refl _ | assumption | refine Bel.drew ?_ | refine Bel.drewN ?_ _ | refine Bel.alloc ?_ _ | refine Bel.setCell ?_ (by first | omega | (simp; done) | (simp; omega) | (simp at *; omega)) _ | refine Bel.trans ?_ (by assumption)))
    have hbw : Bel w w1 := hb0.trans hb1
    obtain ⟨⟨q0, q1⟩, q2, q3⟩ := Held.out w1 hbA
    have hR1 := hR.bel hbw
    clear hb0 hR
    cases hbd : badB P (x' : Int) y (u' : Int) v
    all_goals
      have HBD := Lib.hid hbd
      go_wp2
      go_region_held3 (fun w' => Bel w w' ∧ (w'.cell? ⟨w.heap.size, 0, none⟩ = some (.int .i64 (x' : Int)) ∧ w'.cell? ⟨w.heap.size, 1, none⟩ = some (.int .i64 y)) ∧ w'.cell? ⟨w.heap.size + 1, 0, none⟩ = some (.int .i64 (u' : Int)) ∧ w'.cell? ⟨w.heap.size + 1, 1, none⟩ = some (.int .i64 v)) (exact ⟨by (repeat (first | exact Bel.refl _ | assumption | refine Bel.drew ?_ | refine Bel.drewN ?_ _ | refine Bel.alloc ?_ _ | refine Bel.setCell ?_ (by first | omega | (simp; done) | (simp; omega) | (simp at *; omega)) _ | refine Bel.trans ?_ (by assumption))), Held.out _ (by (repeat (first | exact Bel.refl _ | assumption | refine Bel.drew ?_ | refine Bel.drewN ?_ _ | refine Bel.alloc ?_ _ | refine Bel.setCell ?_ (by first | omega | (simp; done) | (simp; omega) | (simp at *; omega)) _ | refine Bel.trans ?_ (by assumption))))⟩) (first | (go_at_call 80; refine (marksOf_any lo n' A m c P _ (hR1.bel (by (repeat (first | exact Bel.refl _ | assumption | refine Bel.drew ?_ | refine Bel.drewN ?_ _ | refine Bel.alloc ?_ _ | refine Bel.setCell ?_ (by first | omega | (simp; done) | (simp; omega) | (simp at *; omega)) _ | refine Bel.trans ?_ (by assumption))))) Hm.out HGo.out).mono ?_; rintro e w2 ⟨gm, rfl, hgm, hb2, hM⟩) | (go_at_call 98; refine (isBad_any gm n' n' x' u' y v P _ ?_ hxn hun hy hv).mono ?_; exact Row.bel hM (by (repeat (first | exact Bel.refl _ | assumption | refine Bel.drew ?_ | refine Bel.drewN ?_ _ | refine Bel.alloc ?_ _ | refine Bel.setCell ?_ (by first | omega | (simp; done) | (simp; omega) | (simp at *; omega)) _ | refine Bel.trans ?_ (by assumption)))); rintro e w3 ⟨rfl, hb3⟩; rw [HBD.out]))
      all_goals
        have HB := Lib.hid (show Bel w w3 by (repeat (first | exact Bel.refl _ | assumption | refine Bel.drew ?_ | refine Bel.drewN ?_ _ | refine Bel.alloc ?_ _ | refine Bel.setCell ?_ (by first | omega | (simp; done) | (simp; omega) | (simp at *; omega)) _ | refine Bel.trans ?_ (by assumption))))
        go_wp2
        go_ret
        exact ⟨ret_int (by rw [HV.out, HBD.out]; rfl), HB.out⟩
  · have hE' : (errC n P [(x, y), (u, v)] != 0) = true := by simpa using hE
    have HV : Hid (errB n P x y u v = errC n P [(x, y), (u, v)]) := by show _ = _; unfold errB; rw [if_neg hE]
    obtain ⟨z, hz⟩ : ∃ z, z = errC n P [(x, y), (u, v)] := ⟨_, rfl⟩
    have HE := Lib.hid hz
    rw [← hz] at hE hE' HV
    clear hm hz
    go_enter Try.func57, Try.ntmps57
    go_wp2_with fail
    refine (vcases_any lo _ A m c P (some ⟨w.heap.size + 1 + 1, 0, none⟩) 2 2 [(x, y), (u, v)] _ (hR.bel hb0) Hm.out HP1.out rfl (by decide)).mono ?_
    rintro e w1 ⟨rfl, hb1⟩
    rw [← HE.out]
    have HB := Lib.hid (hb0.trans hb1)
    go_wp2
    go_ret
    exact ⟨ret_int HV.out.symm, HB.out⟩
end Go.Proofs.Ytmckoehkekkldaa
