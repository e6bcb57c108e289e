/- The strips of the ring that the law's own test asks: known. -/
import Derived.Test.YtahkihifgafbnaaR
import Derived.Test.YtahkihifgafbnaaK
namespace Go.Proofs.Ytahkihifgafbnaa
open Go.RowKit

attribute [local go_sem] Oper.semAt_some

theorem ints3 {w : World} {g : Nat} {a b c : Int} (h0 : w.cell? ⟨g, 0, none⟩ = some (.int .i64 a)) (h1 : w.cell? ⟨g, 1, none⟩ = some (.int .i64 b)) (h2 : w.cell? ⟨g, 2, none⟩ = some (.int .i64 c)) (hl : g < w.heap.size) : Ints w (some ⟨g, 0, none⟩) [a, b, c] := by
  refine .inr ⟨g, 0, rfl, hl, fun j v hj => ?_⟩
  match j, hj with
  | 0, hj => simp at hj; subst hj; exact h0
  | 1, hj => simp at hj; subst hj; exact h1
  | 2, hj => simp at hj; subst hj; exact h2
  | j + 3, hj => simp at hj
def T0 : List (List Int) := [[0, 1, 0], [0, 0, 1], [1, 0, 0]]
theorem T0_ok : errT T0 = 0 := by decide +kernel
theorem T0_win : (List.range 3).map (winN T0 3) = [1, 1, 1] := by decide +kernel
theorem T0_ring : ringTo T0 3 3 = 1 := by decide +kernel
theorem T0_kings : kingsTo T0 3 3 = [0, 1, 2] := by decide +kernel
theorem T0_best : (bestS T0 3).2 = 1 := by decide +kernel

theorem ring_any (w : World) : Calls Try.prog 77 #[] w fun e w' => ∃ g, e = .returned (.slice (some ⟨g, 0, none⟩) 3 3) ∧ Bel w w' ∧ Tab w.heap.size w' (some ⟨g, 0, none⟩) T0 := by
  go_enter Try.func77, Try.ntmps77
  go_wp2
  go_ret
  refine ⟨_, rfl, by (repeat (first | exact Bel.refl _ | assumption | refine Bel.drew ?_ | refine Bel.drewN ?_ _ | refine Bel.alloc ?_ _ | refine Bel.setCell ?_ (by first | omega | (simp; done) | (simp; omega) | (simp at *; omega)) _ | refine Bel.trans ?_ (by assumption))), .inr ⟨_, 0, rfl, by first | omega | (simp; done) | (simp; omega), by simp, fun j ns hj => ?_⟩⟩
  match j, hj with
  | 0, hj =>
    simp [T0] at hj
    subst hj
    exact ⟨some ⟨w.heap.size, 0, none⟩, 3, 3, by go_simp, ints3 (by go_simp) (by go_simp) (by go_simp) (by first | omega | (simp; done) | (simp; omega)), rfl, by unfold maxLen; omega, fun b' o' e => by cases e; omega⟩
  | 1, hj =>
    simp [T0] at hj
    subst hj
    exact ⟨some ⟨w.heap.size + 1, 0, none⟩, 3, 3, by go_simp, ints3 (by go_simp) (by go_simp) (by go_simp) (by first | omega | (simp; done) | (simp; omega)), rfl, by unfold maxLen; omega, fun b' o' e => by cases e; omega⟩
  | 2, hj =>
    simp [T0] at hj
    subst hj
    exact ⟨some ⟨w.heap.size + 1 + 1, 0, none⟩, 3, 3, by go_simp, ints3 (by go_simp) (by go_simp) (by go_simp) (by first | omega | (simp; done) | (simp; omega)), rfl, by unfold maxLen; omega, fun b' o' e => by cases e; omega⟩
/-- What the law asks of the ring first comes out as it says. -/
theorem known_any (w : World) : Calls Try.prog 36 #[] w fun e w' => e = .returned (.bool true) ∧ Bel w w' := by
  go_enter Try.func36, Try.ntmps36
  go_wp2_with fail
  refine (ring_any _).mono ?_
  rintro e w1 ⟨g1, rfl, hb1, hT1⟩
  go_wp2_with fail
  refine (wins_ok _ (some ⟨g1, 0, none⟩) 3 3 T0 _ hT1 rfl T0_ok).mono ?_
  rintro e w2 ⟨g2, rfl, hg2, hb2, hR2⟩
  have hI2 := hR2.ints
  rw [T0_win] at hI2
  clear hR2
  have hb02 : Bel w w2 := hb1.trans hb2
  go_wp2_with fail
  refine (ring_any _).mono ?_
  rintro e w3 ⟨g3, rfl, hb3, hT3⟩
  go_wp2_with fail
  refine (rings_ok _ (some ⟨g3, 0, none⟩) 3 3 T0 _ hT3 rfl T0_ok).mono ?_
  rintro e w4 ⟨rfl, hb4⟩
  rw [T0_ring]
  have hb04 : Bel w w4 := hb02.trans (hb3.trans hb4)
  go_wp2_with fail
  refine (ring_any _).mono ?_
  rintro e w5 ⟨g5, rfl, hb5, hT5⟩
  go_wp2_with fail
  refine (kings_ok _ (some ⟨g5, 0, none⟩) 3 3 T0 _ hT5 rfl T0_ok).mono ?_
  rintro e w6 ⟨v6, base, rfl, hbs, hb6, hO6⟩
  rw [T0_kings] at hO6
  obtain ⟨A6, n6, c6, rfl, hn6, hI6⟩ := hO6.form
  obtain rfl : n6 = 3 := hn6
  clear hO6
  have hb06 : Bel w w6 := hb04.trans (hb5.trans hb6)
  go_wp2_with fail
  refine (ring_any _).mono ?_
  rintro e w7 ⟨g7, rfl, hb7, hT7⟩
  go_wp2_with fail
  refine (fewest_ok _ (some ⟨g7, 0, none⟩) 3 3 T0 _ hT7 rfl T0_ok).mono ?_
  rintro e w8 ⟨rfl, hb8⟩
  rw [T0_best]
  have hb08 : Bel w w8 := hb06.trans (hb7.trans hb8)
  have hb28 : Bel w2 w8 := (hb3.trans hb4).trans ((hb5.trans hb6).trans (hb7.trans hb8))
  have hb68 : Bel w6 w8 := hb7.trans hb8
  go_wp2_with fail
  refine (sameInts_any (some ⟨g2, 0, none⟩) (some ⟨w8.heap.size, 0, none⟩) 3 3 3 3 [1, 1, 1] _ (hI2.bel (hb28.alloc _)) (ints3 (by go_simp) (by go_simp) (by go_simp) (by simp)) rfl rfl (by unfold maxLen; omega)).mono ?_
  rintro e w9 ⟨rfl, hb9⟩
  go_wp2_with fail
  refine (sameInts_any A6 (some ⟨w9.heap.size, 0, none⟩) 3 c6 3 3 [0, 1, 2] _ (hI6.bel ((hb68.trans (((Bel.refl _).alloc _).trans hb9)).alloc _)) (ints3 (by go_simp) (by go_simp) (by go_simp) (by simp)) rfl rfl (by unfold maxLen; omega)).mono ?_
  rintro e w10 ⟨rfl, hb10⟩
  go_wp2
  go_ret
  exact ⟨rfl, hb08.trans (((((Bel.refl _).alloc _).trans hb9).alloc _).trans hb10)⟩
end Go.Proofs.Ytahkihifgafbnaa
