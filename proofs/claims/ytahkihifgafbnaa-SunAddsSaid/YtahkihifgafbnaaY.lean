/- Plain: rings are told by the wins. -/
import Derived.Test.YtahkihifgafbnaaX
namespace Go.Proofs.Ytahkihifgafbnaa
open Go.RowKit

def lowB (i k m : Nat) : Int := if i < k ∧ i < m then 1 else 0
def ringS (f : Nat → Nat → Int) (n : Nat) : Int := sumTo (fun a => sumTo (fun b => sumTo (fun c => f a b * f b c * f c a * lowB a b c) n) n) n
theorem Beats.low {n : Nat} {f : Nat → Nat → Int} (h : Beats n f) {i k m : Nat} (hi : i < n) (hk : k < n) (hm : m < n) : f i k * f k m * f m i = f i k * f k m * f m i * lowB i k m + f k m * f m i * f i k * lowB k m i + f m i * f i k * f k m * lowB m i k := by
  have e1 : f k m * f m i * f i k = f i k * f k m * f m i := by rw [Int.mul_comm (f k m * f m i) (f i k), Int.mul_assoc]
  have e2 : f m i * f i k * f k m = f i k * f k m * f m i := by rw [Int.mul_assoc, Int.mul_comm (f m i)]
  rw [e1, e2]
  by_cases h1 : i = k
  · subst h1
    rw [h.self i hi]
    simp
  · by_cases h2 : k = m
    · subst h2
      rw [h.self k hk]
      simp
    · by_cases h3 : m = i
      · subst h3
        rw [h.self m hm]
        simp
      · rcases (by omega : (i < k ∧ i < m) ∨ (k < m ∧ k < i) ∨ (m < i ∧ m < k)) with hh | hh | hh
        · rw [show lowB i k m = 1 from if_pos hh, show lowB k m i = 0 from if_neg (by omega), show lowB m i k = 0 from if_neg (by omega)]
          omega
        · rw [show lowB i k m = 0 from if_neg (by omega), show lowB k m i = 1 from if_pos hh, show lowB m i k = 0 from if_neg (by omega)]
          omega
        · rw [show lowB i k m = 0 from if_neg (by omega), show lowB k m i = 0 from if_neg (by omega), show lowB m i k = 1 from if_pos hh]
          omega
theorem Beats.trip3 {n : Nat} {f : Nat → Nat → Int} (h : Beats n f) : tripS f n = 3 * ringS f n := by
  have e0 : tripS f n = sumTo (fun i => sumTo (fun k => sumTo (fun m => f i k * f k m * f m i * lowB i k m) n) n) n + sumTo (fun i => sumTo (fun k => sumTo (fun m => f k m * f m i * f i k * lowB k m i) n) n) n + sumTo (fun i => sumTo (fun k => sumTo (fun m => f m i * f i k * f k m * lowB m i k) n) n) n := by
    unfold tripS
    rw [← sumTo_add, ← sumTo_add]
    refine sumTo_congr n fun i hi => ?_
    rw [← sumTo_add, ← sumTo_add]
    refine sumTo_congr n fun k hk => ?_
    rw [← sumTo_add, ← sumTo_add]
    exact sumTo_congr n fun m hm => h.low hi hk hm
  have e1 : sumTo (fun i => sumTo (fun k => sumTo (fun m => f k m * f m i * f i k * lowB k m i) n) n) n = ringS f n := by
    rw [sumTo_swap (fun i k => sumTo (fun m => f k m * f m i * f i k * lowB k m i) n) n n]
    refine sumTo_congr n fun k _ => ?_
    exact sumTo_swap (fun i m => f k m * f m i * f i k * lowB k m i) n n
  have e2 : sumTo (fun i => sumTo (fun k => sumTo (fun m => f m i * f i k * f k m * lowB m i k) n) n) n = ringS f n := by
    rw [sumTo_congr n (fun i _ => sumTo_swap (fun k m => f m i * f i k * f k m * lowB m i k) n n)]
    exact sumTo_swap (fun i m => sumTo (fun k => f m i * f i k * f k m * lowB m i k) n) n n
  rw [e0, e1, e2]
  unfold ringS
  omega
/-- Half of what is even, subtracted one by one. -/
def leftS (f : Nat → Nat → Int) (n : Nat) : Nat → Int
  | 0 => n * (n - 1) * (n - 2) / 6
  | k + 1 => leftS f n k - winS f n k * (winS f n k - 1) / 2
theorem even_mul (x : Int) : x * (x - 1) / 2 * 2 = x * (x - 1) := by
  have : x * (x - 1) % 2 = 0 := by
    rcases Int.emod_two_eq x with h | h
    · rw [Int.mul_emod, h]
      simp
    · rw [Int.mul_emod, Int.sub_emod, h]
      simp
  omega
theorem leftS_sum (f : Nat → Nat → Int) (n : Nat) : ∀ k, 2 * leftS f n k = 2 * (n * (n - 1) * (n - 2) / 6) - sumTo (fun i => winS f n i * winS f n i) k + sumTo (winS f n) k
  | 0 => by simp [leftS, sumTo]
  | k + 1 => by
    have h := even_mul (winS f n k)
    rw [leftS, sumTo, sumTo, Int.mul_sub, leftS_sum f n k]
    rw [Int.mul_sub (winS f n k), Int.mul_one] at h ⊢
    omega
theorem Beats.left {n : Nat} {f : Nat → Nat → Int} (h : Beats n f) (h7 : n ≤ 7) : leftS f n n = ringS f n := by
  have h1 := h.ring4
  have h2 := h.trip3
  have h3 := leftS_sum f n n
  have h4 := h.wins
  have h5 : 6 * ((n : Int) * (n - 1) * (n - 2) / 6) = n * (n - 1) * (n - 2) := by
    have : n = 0 ∨ n = 1 ∨ n = 2 ∨ n = 3 ∨ n = 4 ∨ n = 5 ∨ n = 6 ∨ n = 7 := by omega
    rcases this with rfl | rfl | rfl | rfl | rfl | rfl | rfl | rfl <;> decide
  have h6 : (2 * (n : Int) - 1) * (n * n - n) = 2 * (n * (n - 1) * (n - 2)) + 3 * (n * n - n) := by
    have : n = 0 ∨ n = 1 ∨ n = 2 ∨ n = 3 ∨ n = 4 ∨ n = 5 ∨ n = 6 ∨ n = 7 := by omega
    rcases this with rfl | rfl | rfl | rfl | rfl | rfl | rfl | rfl <;> decide
  generalize sumTo (fun i => winS f n i * winS f n i) n = Q at *
  generalize sumTo (winS f n) n = W at *
  generalize (n : Int) * (n - 1) * (n - 2) / 6 = D at *
  rw [h6, ← h5] at h1
  omega
end Go.Proofs.Ytahkihifgafbnaa
