/- What the theorem of the whole wants: plain facts. -/
import Derived.Test.YtmbhhooiaonhjaaMN
import Derived.Test.YtmbhhooiaonhjaaY2
import Derived.Test.YtmbhhooiaonhjaaY3
import Derived.Test.YtmbhhooiaonhjaaSJ
namespace Go.Proofs.Ytmbhhooiaonhjaa
open Go.RowKit

theorem pow_mono {P d : Int} (h0 : 0 ≤ P) (h1 : P ≤ d) : ∀ j : Nat, 0 ≤ P ^ j ∧ P ^ j ≤ d ^ j
  | 0 => by simp
  | j + 1 => by
    obtain ⟨a, b⟩ := pow_mono h0 h1 j
    rw [Int.pow_succ, Int.pow_succ]
    exact ⟨Int.mul_nonneg a h0, Int.le_trans (Int.mul_le_mul_of_nonneg_right b h0) (Int.mul_le_mul_of_nonneg_left h1 (Int.le_trans a b))⟩
/-- More settlings leave no more above. -/
theorem wash_le {m P d : Int} (hm : 0 ≤ m) (h0 : 0 ≤ P) (h1 : P ≤ d) (hd : 0 < d) (j : Nat) :
    (nd (m * P ^ (j + 1)) (d ^ (j + 1))).1 * (nd (m * P) d).2 ≤ (nd (m * P) d).1 * (nd (m * P ^ (j + 1)) (d ^ (j + 1))).2 := by
  have hX : 0 < d ^ (j + 1) := Int.pow_pos hd
  have hA : 0 ≤ m * P ^ (j + 1) := Int.mul_nonneg hm (pow_mono h0 h1 (j + 1)).1
  have hB : 0 ≤ m * P := Int.mul_nonneg hm h0
  have c1 := num_den hA hX
  have c2 := num_den hB hd
  obtain ⟨b1, _⟩ := den_bd hA hX
  obtain ⟨b3, _⟩ := den_bd hB hd
  have key : m * P ^ (j + 1) * d ≤ m * P * d ^ (j + 1) := by
    rw [Int.pow_succ, Int.pow_succ]
    have := (pow_mono h0 h1 j).2
    calc m * (P ^ j * P) * d = (m * P * d) * P ^ j := by ac_rfl
      _ ≤ (m * P * d) * d ^ j := Int.mul_le_mul_of_nonneg_left this (Int.mul_nonneg hB (Int.le_of_lt hd))
      _ = m * P * (d ^ j * d) := by ac_rfl
  simp only [nd]
  generalize num (m * P ^ (j + 1)) (d ^ (j + 1)) = p at *
  generalize den (m * P ^ (j + 1)) (d ^ (j + 1)) = q at *
  generalize num (m * P) d = u at *
  generalize den (m * P) d = v at *
  generalize m * P ^ (j + 1) = a at *
  generalize m * P = b at *
  generalize d ^ (j + 1) = x at *
  have hxd : 0 < x * d := Int.mul_pos hX hd
  refine Int.le_of_mul_le_mul_right (a := x * d) ?_ hxd
  calc p * v * (x * d) = (p * x) * (v * d) := by ac_rfl
    _ = (a * d) * (q * v) := by rw [c1]; ac_rfl
    _ ≤ (b * x) * (q * v) := Int.mul_le_mul_of_nonneg_right key (Int.mul_nonneg (Int.le_of_lt b1) (Int.le_of_lt b3))
    _ = (b * v) * (q * x) := by ac_rfl
    _ = u * q * (x * d) := by rw [← c2]; ac_rfl
theorem nd_small {a x : Int} (ha : 0 ≤ a) (hx : 0 < x) : (0 ≤ (nd a x).1 ∧ (nd a x).1 ≤ a) ∧ 1 ≤ (nd a x).2 ∧ (nd a x).2 ≤ x := by
  obtain ⟨a1, a2⟩ := num_bd ha hx
  obtain ⟨b1, b2⟩ := den_bd ha hx
  simp only [nd]
  omega
theorem part1 : nd (skn 3 2 10) 10 = (3, 5) := by decide +kernel
theorem mass_of {gs : List (Int × Int)} (h : errV gs = 0) : belowV gs 20 = sumM gs := by rw [belowV_ok h, sumB_all (fit_of gs h)]
end Go.Proofs.Ytmbhhooiaonhjaa
