/- The known answers. -/
import Derived.Test.YtfjegdejfccgaaaZN
namespace Go.Proofs.Ytfjegdejfccgaaa
open Go.RowKit

def wX : List (List Int) := [[2, 0], [0, 2]]
def wY : List (List Int) := [[2, 1]]
theorem w_ok : errS wX wY = 0 := by decide +kernel
theorem w_fit : Fits (elF wX wY) (elN wX) := by unfold Fits Fit; decide +kernel
theorem w_wd : 2 + 1 = (redTo (elF wX wY) (elN wX) 6).2.length + 1 := by decide +kernel
theorem w_sole : SoleOK (redTo (elF wX wY) (elN wX) 6).1 (redTo (elF wX wY) (elN wX) 6).2 2 :=
  ⟨by decide +kernel, by decide +kernel, by decide +kernel, by decide +kernel, by decide +kernel⟩
def wL : Nat → Int := loF (soTo (redTo (elF wX wY) (elN wX) 6).1 (redTo (elF wX wY) (elN wX) 6).2 2 (redTo (elF wX wY) (elN wX) 6).2.length)
theorem w_bd : ∀ i, i < 6 → -1000000000000 ≤ wL i ∧ wL i ≤ 1000000000000 := by decide +kernel
theorem w_pos : ∀ i, i < 2 + 1 → 0 < wL i := by decide +kernel
theorem w_list : (List.range (2 + 1)).map wL = [2, 1, 2] := by decide +kernel
theorem w_run : errR wX wY [2, 1, 2] [5, 9] = 0 := by decide +kernel
theorem w_lim : limV wX wY [2, 1, 2] [5, 9] = 2 := by decide +kernel
theorem w_forbid : errC [[1, 0]] [[0, 1]] [1, -1] = 0 := by decide +kernel
/-- The strike of the chapter's first example. -/
def WaterAt (w : World) (e : Ending) (w' : World) : Prop := ∃ A c B d, e = .returned (.agg #[.slice A 2 c, .slice B 1 d]) ∧ Bel w w' ∧ Strk w' A 2 B 1 wX wY
theorem ints2 {w : World} {g : Nat} {a b : Int} (h0 : w.cell? ⟨g, 0, none⟩ = some (.int .i64 a)) (h1 : w.cell? ⟨g, 1, none⟩ = some (.int .i64 b)) (hl : g < w.heap.size) : Ints w (some ⟨g, 0, none⟩) [a, b] := by
  refine .inr ⟨g, 0, rfl, hl, fun j v hj => ?_⟩
  match j, hj with
  | 0, hj => simp at hj; subst hj; exact h0
  | 1, hj => simp at hj; subst hj; exact h1
  | j + 2, hj => simp at hj
theorem ints3 {w : World} {g : Nat} {a b c : Int} (h0 : w.cell? ⟨g, 0, none⟩ = some (.int .i64 a)) (h1 : w.cell? ⟨g, 1, none⟩ = some (.int .i64 b)) (h2 : w.cell? ⟨g, 2, none⟩ = some (.int .i64 c)) (hl : g < w.heap.size) : Ints w (some ⟨g, 0, none⟩) [a, b, c] := by
  refine .inr ⟨g, 0, rfl, hl, fun j v hj => ?_⟩
  match j, hj with
  | 0, hj => simp at hj; subst hj; exact h0
  | 1, hj => simp at hj; subst hj; exact h1
  | 2, hj => simp at hj; subst hj; exact h2
  | j + 3, hj => simp at hj
theorem tab1 {w : World} {g n c : Nat} {A : Option Addr} {r : List Int} (h0 : w.cell? ⟨g, 0, none⟩ = some (.slice A n c)) (hI : Ints w A r) (hr : r.length = n) (hn : n ≤ maxLen) (hl : g < w.heap.size) : Tab 0 w (some ⟨g, 0, none⟩) [r] := by
  refine .inr ⟨g, 0, rfl, Nat.zero_le _, hl, fun j ns hj => ?_⟩
  match j, hj with
  | 0, hj => simp at hj; subst hj; exact ⟨A, n, c, h0, hI, hr, hn, fun _ _ _ => Nat.zero_le _⟩
  | j + 1, hj => simp at hj
theorem tab2 {w : World} {g n c n' c' : Nat} {A A' : Option Addr} {r s : List Int} (h0 : w.cell? ⟨g, 0, none⟩ = some (.slice A n c)) (h1 : w.cell? ⟨g, 1, none⟩ = some (.slice A' n' c')) (hI : Ints w A r) (hJ : Ints w A' s) (hr : r.length = n) (hs : s.length = n') (hn : n ≤ maxLen) (hn' : n' ≤ maxLen) (hl : g < w.heap.size) : Tab 0 w (some ⟨g, 0, none⟩) [r, s] := by
  refine .inr ⟨g, 0, rfl, Nat.zero_le _, hl, fun j ns hj => ?_⟩
  match j, hj with
  | 0, hj => simp at hj; subst hj; exact ⟨A, n, c, h0, hI, hr, hn, fun _ _ _ => Nat.zero_le _⟩
  | 1, hj => simp at hj; subst hj; exact ⟨A', n', c', h1, hJ, hs, hn', fun _ _ _ => Nat.zero_le _⟩
  | j + 2, hj => simp at hj
set_option maxRecDepth 100000 in
theorem water_any (w : World) : Calls Try.prog 71 #[] w (WaterAt w) := by
  go_enter Try.func71, Try.ntmps71
  go_wp2
  refine bodyPost_ret (v := .agg #[.slice (some ⟨w.heap.size + 1 + 1 + 1, 0, none⟩) 2 2, .slice (some ⟨w.heap.size + 1 + 1 + 1 + 1 + 1, 0, none⟩) 1 1]) (by simp [results, Try.results71, go_sem]) rfl ⟨_, _, _, _, rfl, by (repeat (first | exact Bel.refl _ | assumption | refine Bel.drew ?_ | refine Bel.drewN ?_ _ | refine Bel.alloc ?_ _ | refine Bel.setCell ?_ (by first | omega | (simp; done) | (simp; omega) | (simp at *; omega)) _ | refine Bel.trans ?_ (by assumption))), ?_⟩
  refine ⟨tab2 (g := w.heap.size + 1 + 1 + 1) (A := some ⟨w.heap.size + 1, 0, none⟩) (n := 2) (c := 2) (A' := some ⟨w.heap.size + 1 + 1, 0, none⟩) (n' := 2) (c' := 2) (by go_simp) (by go_simp) (ints2 (by go_simp) (by go_simp) (by simp <;> omega)) (ints2 (by go_simp) (by go_simp) (by simp <;> omega)) rfl rfl (by unfold maxLen; omega) (by unfold maxLen; omega) (by simp <;> omega), tab1 (g := w.heap.size + 1 + 1 + 1 + 1 + 1) (A := some ⟨w.heap.size + 1 + 1 + 1 + 1, 0, none⟩) (n := 2) (c := 2) (by go_simp) (ints2 (by go_simp) (by go_simp) (by simp <;> omega)) rfl (by unfold maxLen; omega) (by simp <;> omega), rfl, rfl⟩
set_option maxRecDepth 100000 in
set_option maxHeartbeats 1000000 in
theorem known_any (w : World) : Calls Try.prog 36 #[] w fun e w' => e = .returned (.bool true) ∧ Bel w w' := by
  go_enter Try.func36, Try.ntmps36
  go_wp2_with fail
  refine (water_any _).mono ?_
  rintro e w1 ⟨A1, c1, B1, d1, rfl, hb1, hS1⟩
  go_wp2_with fail
  refine (simple_pos A1 B1 2 c1 1 d1 2 wX wY _ hS1 w_ok w_fit w_wd w_sole wL rfl w_bd w_pos).mono ?_
  rintro e w2 ⟨A2, n2, c2, rfl, hn2, hb2, hI2⟩
  rw [w_list] at hn2 hI2
  obtain rfl : n2 = 3 := hn2
  have hb02 : Bel w w2 := hb1.trans hb2
  go_wp2_with fail
  refine (water_any _).mono ?_
  rintro e w3 ⟨A3, c3, B3, d3, rfl, hb3, hS3⟩
  have hb03 : Bel w w3 := hb02.trans hb3
  go_wp2_with fail
  refine (limit_pub A3 B3 2 c3 1 d3 wX wY _ 3 3 [2, 1, 2] _ 2 2 [5, 9] _ (hS3.bel (by (repeat (first | exact Bel.refl _ | assumption | refine Bel.drew ?_ | refine Bel.drewN ?_ _ | refine Bel.alloc ?_ _ | refine Bel.setCell ?_ (by first | omega | (simp; done) | (simp; omega) | (simp at *; omega)) _ | refine Bel.trans ?_ (by assumption))))) (ints3 (by go_simp) (by go_simp) (by go_simp) (by simp <;> omega)) rfl (Nat.le_refl _) (by unfold maxLen; omega) (ints2 (by go_simp) (by go_simp) (by simp <;> omega)) rfl (by unfold maxLen; omega)).mono ?_
  rintro e w4 ⟨A4, n4, c4, rfl, hn4, hb4, hI4⟩
  rw [w_lim, w_run]
  have hb04 : Bel w w4 := hb03.trans (((Bel.refl _).alloc _).alloc _ |>.trans hb4)
  clear hn4
  go_wp2_with fail
  refine (checkForbid_any (some ⟨w4.heap.size + 1, 0, none⟩) (some ⟨w4.heap.size + 1 + 1 + 1, 0, none⟩) 1 1 1 1 [[1, 0]] [[0, 1]] (some ⟨w4.heap.size + 1 + 1 + 1 + 1, 0, none⟩) 2 2 [1, -1] _ ⟨tab1 (g := w4.heap.size + 1) (A := some ⟨w4.heap.size, 0, none⟩) (n := 2) (c := 2) (by go_simp) (ints2 (by go_simp) (by go_simp) (by simp <;> omega)) rfl (by unfold maxLen; omega) (by simp <;> omega), tab1 (g := w4.heap.size + 1 + 1 + 1) (A := some ⟨w4.heap.size + 1 + 1, 0, none⟩) (n := 2) (c := 2) (by go_simp) (ints2 (by go_simp) (by go_simp) (by simp <;> omega)) rfl (by unfold maxLen; omega) (by simp <;> omega), rfl, rfl⟩ (ints2 (by go_simp) (by go_simp) (by simp <;> omega)) rfl (by unfold maxLen; omega)).mono ?_
  rintro e w5 ⟨rfl, hb5⟩
  rw [w_forbid]
  have hb45 : Bel w4 w5 := (by (repeat (first | exact Bel.refl _ | assumption | refine Bel.drew ?_ | refine Bel.drewN ?_ _ | refine Bel.alloc ?_ _ | refine Bel.setCell ?_ (by first | omega | (simp; done) | (simp; omega) | (simp at *; omega)) _ | refine Bel.trans ?_ (by assumption))))
  have hb05 : Bel w w5 := hb04.trans hb45
  have hb25 : Bel w2 w5 := hb3.trans (((((Bel.refl _).alloc _).alloc _).trans hb4).trans hb45)
  clear hb5
  go_wp2_with fail
  refine (sameInts_any A2 (some ⟨w5.heap.size, 0, none⟩) 3 c2 3 3 [2, 1, 2] _ (hI2.bel (hb25.alloc _)) (ints3 (by go_simp) (by go_simp) (by go_simp) (by simp)) rfl rfl (by unfold maxLen; omega)).mono ?_
  rintro e w6 ⟨rfl, hb6⟩
  go_wp2
  go_ret
  exact ⟨rfl, hb05.trans (((Bel.refl _).alloc _).trans hb6)⟩
end Go.Proofs.Ytfjegdejfccgaaa
