/- The document's Wash. -/
import Derived.Test.YtmbhhooiaonhjaaY1
namespace Go.Proofs.Ytmbhhooiaonhjaa
open Go.RowKit

theorem pow_bd {x : Int} (h0 : 0 ≤ x) (h1 : x ≤ 20) (j : Nat) (hj : j ≤ 4) : 0 ≤ x ^ j ∧ x ^ j ≤ 160000 ∧ (j ≤ 3 → x ^ j ≤ 8000) := by
  have p2 := mul_bd h0 h1 h0 h1
  have p3 := mul_bd p2.1 p2.2 h0 h1
  have p4 := mul_bd p3.1 p3.2 h0 h1
  have e2 : x ^ 2 = x * x := by rw [Int.pow_succ, Int.pow_succ, Int.pow_zero, Int.one_mul]
  have e3 : x ^ 3 = x * x * x := by rw [Int.pow_succ, e2]
  have e4 : x ^ 4 = x * x * x * x := by rw [Int.pow_succ, e3]
  match j, hj with
  | 0, _ => simp
  | 1, _ => rw [Int.pow_succ, Int.pow_zero, Int.one_mul]; omega
  | 2, _ => rw [e2]; omega
  | 3, _ => rw [e3]; omega
  | 4, _ => rw [e4]; omega
theorem stayN_eq {gs : List (Int × Int)} {t d : Int} (h : Fit gs) (h2 : 0 ≤ t) (h3 : 1 ≤ d) (j : Nat) : stayN t d j (pot gs) = potF (fun g => g.2 * (d - skn g.1 t d) ^ j) (d ^ j) gs := by
  induction j with
  | zero =>
    show pot gs = _
    rw [potF_pot (fun g hg => by have := h g hg; omega)]
    simp
  | succ j ih =>
    show (stayN t d j (pot gs)).map (stayP t d) = _
    rw [ih, stay_potF (fun g hg => by
      have := h g hg
      obtain ⟨k1, k2⟩ := skn_bd (s := g.1) (t := t) (d := d) (by omega) h2 h3
      exact ⟨Int.mul_nonneg (by omega) (Int.pow_nonneg (by omega)), by omega⟩) (Int.pow_pos (by omega)) h2 h3]
    simp only [Int.pow_succ, Int.mul_assoc]
theorem washL_eq {gs : List (Int × Int)} {t d : Int} (h : Fit gs) (h2 : 0 ≤ t) (h3 : 1 ≤ d) (j : Nat) : restL (stayN t d j (pot gs)) = gs.map fun g => nd (g.2 * (d - skn g.1 t d) ^ j) (d ^ j) := by
  rw [stayN_eq h h2 h3, rest_potF]

/-- One slice of fractions, and OK. -/
def OnePrs (w : World) (xs : List (Int × Int)) (e : Ending) (w' : World) : Prop :=
  ∃ A n c, e = .returned (.tuple #[.slice A n c, .int .i64 0]) ∧ n = xs.length ∧ Bel w w' ∧ Prs w' A xs

end Go.Proofs.Ytmbhhooiaonhjaa

