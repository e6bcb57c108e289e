/- The program has the masses that the document gives. -/
import Derived.Test.YtmbhhooiaonhjaaJ
namespace Go.Proofs.Ytmbhhooiaonhjaa
open Go.RowKit

theorem known1 : sunkL [(1, 2), (5, 4)] 1 10 = [(1, 5), (2, 1)] := by decide +kernel
theorem known2 : stayL [(1, 2), (5, 4)] 1 10 = [(9, 5), (2, 1)] := by decide +kernel
theorem known3 : restL (stayN 1 10 2 (pot [(1, 2), (5, 4)])) = [(81, 50), (1, 1)] := by decide +kernel
theorem known0 : errV [(1, 2), (5, 4)] = 0 := by decide +kernel

theorem prs_lit (w : World) (a b c d : Int) (ty : TypeId) (g : Nat) (hg : g = w.heap.size) : Prs (w.alloc (.cells #[.int .i64 a, .int .i64 b, .int .i64 c, .int .i64 d] ty)) (some ⟨g, 0, none⟩) [(a, b), (c, d)] := by
  subst hg
  refine Row.prs (m := 4) (Row.whole w _ ty 4 _ fun i hi => ?_)
  match i, hi with
  | 0, _ => rfl
  | 1, _ => rfl
  | 2, _ => rfl
  | 3, _ => rfl

set_option maxHeartbeats 1000000 in
theorem known_any (w : World) : Calls Try.prog 16 #[] w fun e w' => e = .returned (.bool true) ∧ Bel w w' := by
  go_enter Try.func16, Try.ntmps16
  go_wp2_with fail
  refine (lot_any _).mono ?_
  rintro e w1 ⟨g1, rfl, hg1, hb1, hr1⟩
  go_wp2_with fail
  refine (settle_ok _ 2 2 [(1, 2), (5, 4)] 1 10 _ hr1.prs rfl known0 (by decide) (by decide)).mono ?_
  rintro e w2 ⟨g2, g3, rfl, hg2, hg3, hb2, hr2, hr3⟩
  rw [known1] at hr2
  rw [known2] at hr3
  go_wp2_with fail
  refine (lot_any _).mono ?_
  rintro e w3 ⟨g4, rfl, hg4, hb3, hr4⟩
  go_wp2_with fail
  refine (wash_ok _ 2 2 [(1, 2), (5, 4)] 1 10 2 _ hr4.prs rfl known0 (by decide) (by decide) (by omega) (by omega)).mono ?_
  rintro e w4 ⟨g5, rfl, hg5, hb4, hr5⟩
  rw [known3] at hr5
  have held : ∀ w', Bel (((((w4.alloc (.cells #[.int .i64 2, .int .i64 1] 46)).alloc (.cells #[.int .i64 1, .int .i64 1] 46)).alloc (.cells #[.int .i64 1, .int .i64 5] 46)).alloc (.cells #[.int .i64 9, .int .i64 5] 46)).alloc (.cells #[.int .i64 81, .int .i64 50] 46)) w' → w'.cell? ⟨w4.heap.size, 0, none⟩ = some (.int .i64 2) ∧ w'.cell? ⟨w4.heap.size, 1, none⟩ = some (.int .i64 1) ∧ w'.cell? ⟨w4.heap.size + 1, 0, none⟩ = some (.int .i64 1) ∧ w'.cell? ⟨w4.heap.size + 1, 1, none⟩ = some (.int .i64 1) ∧ w'.cell? ⟨w4.heap.size + 1 + 1 + 1, 0, none⟩ = some (.int .i64 9) ∧ w'.cell? ⟨w4.heap.size + 1 + 1 + 1, 1, none⟩ = some (.int .i64 5) ∧ w'.cell? ⟨w4.heap.size + 1 + 1 + 1 + 1, 0, none⟩ = some (.int .i64 81) ∧ w'.cell? ⟨w4.heap.size + 1 + 1 + 1 + 1, 1, none⟩ = some (.int .i64 50) := by
    intro w' h
    obtain ⟨hc, -, -⟩ := h.use
    refine ⟨?_, ?_, ?_, ?_, ?_, ?_, ?_, ?_⟩ <;> (rw [hc _ _ (by simp <;> omega)]; go_simp)
  have Held := Lib.hid held; clear held
  go_wp2_with fail
  refine (sameRats_any _ _ 2 2 2 2 [(1, 5), (2, 1)] [(1, 5), (2, 1)] _ (hr2.prs.bel (by (repeat (first | exact Bel.refl _ | assumption | refine Bel.drew ?_ | refine Bel.drewN ?_ _ | refine Bel.alloc ?_ _ | refine Bel.setCell ?_ (by first | omega | (simp; done) | (simp; omega) | (simp at *; omega)) _ | refine Bel.trans ?_ (by assumption))))) (prs_lit _ _ _ _ _ _ _ (by simp)) rfl rfl (by decide) (by decide)).mono ?_
  rintro e w5 ⟨rfl, hb5⟩
  obtain ⟨a1, a2, a3, a4, a5, a6, a7, a8⟩ := Held.out w5 (by (repeat (first | exact Bel.refl _ | assumption | refine Bel.drew ?_ | refine Bel.drewN ?_ _ | refine Bel.alloc ?_ _ | refine Bel.setCell ?_ (by first | omega | (simp; done) | (simp; omega) | (simp at *; omega)) _ | refine Bel.trans ?_ (by assumption))))
  rw [show same [(1, 5), (2, 1)] [(1, 5), (2, 1)] = true from by decide]
  go_wp2_with fail
  refine (sameRats_any _ _ 2 2 2 2 [(9, 5), (2, 1)] [(9, 5), (2, 1)] _ (hr3.prs.bel (by (repeat (first | exact Bel.refl _ | assumption | refine Bel.drew ?_ | refine Bel.drewN ?_ _ | refine Bel.alloc ?_ _ | refine Bel.setCell ?_ (by first | omega | (simp; done) | (simp; omega) | (simp at *; omega)) _ | refine Bel.trans ?_ (by assumption))))) (prs_lit _ _ _ _ _ _ _ (by simp)) rfl rfl (by decide) (by decide)).mono ?_
  rintro e w6 ⟨rfl, hb6⟩
  clear a1 a2 a3 a4 a5 a6 a7 a8
  obtain ⟨a1, a2, a3, a4, a5, a6, a7, a8⟩ := Held.out w6 (by (repeat (first | exact Bel.refl _ | assumption | refine Bel.drew ?_ | refine Bel.drewN ?_ _ | refine Bel.alloc ?_ _ | refine Bel.setCell ?_ (by first | omega | (simp; done) | (simp; omega) | (simp at *; omega)) _ | refine Bel.trans ?_ (by assumption))))
  rw [show same [(9, 5), (2, 1)] [(9, 5), (2, 1)] = true from by decide]
  go_wp2_with fail
  refine (sameRats_any _ _ 2 2 2 2 [(81, 50), (1, 1)] [(81, 50), (1, 1)] _ (hr5.prs.bel (by (repeat (first | exact Bel.refl _ | assumption | refine Bel.drew ?_ | refine Bel.drewN ?_ _ | refine Bel.alloc ?_ _ | refine Bel.setCell ?_ (by first | omega | (simp; done) | (simp; omega) | (simp at *; omega)) _ | refine Bel.trans ?_ (by assumption))))) (prs_lit _ _ _ _ _ _ _ (by simp)) rfl rfl (by decide) (by decide)).mono ?_
  rintro e w7 ⟨rfl, hb7⟩
  rw [show same [(81, 50), (1, 1)] [(81, 50), (1, 1)] = true from by decide]
  go_wp2
  go_ret
  exact ⟨rfl, by (repeat (first | exact Bel.refl _ | assumption | refine Bel.drew ?_ | refine Bel.drewN ?_ _ | refine Bel.alloc ?_ _ | refine Bel.setCell ?_ (by first | omega | (simp; done) | (simp; omega) | (simp at *; omega)) _ | refine Bel.trans ?_ (by assumption)))⟩
end Go.Proofs.Ytmbhhooiaonhjaa

