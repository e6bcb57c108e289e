/- Plain: rings and wins of a table. -/
import Derived.Test.YtahkihifgafbnaaW
namespace Go.Proofs.Ytahkihifgafbnaa
open Go.RowKit

theorem sumTo_congr {f g : Nat → Int} : ∀ n, (∀ i, i < n → f i = g i) → sumTo f n = sumTo g n
  | 0, _ => rfl
  | n + 1, h => by rw [sumTo, sumTo, sumTo_congr n (fun i hi => h i (by omega)), h n (by omega)]
theorem sumTo_add (f g : Nat → Int) : ∀ n, sumTo (fun i => f i + g i) n = sumTo f n + sumTo g n
  | 0 => rfl
  | n + 1 => by
    rw [sumTo, sumTo, sumTo, sumTo_add f g n]
    omega
theorem sumTo_mul (c : Int) (f : Nat → Int) : ∀ n, sumTo (fun i => c * f i) n = c * sumTo f n
  | 0 => by simp [sumTo]
  | n + 1 => by rw [sumTo, sumTo, sumTo_mul c f n, Int.mul_add]
theorem sumTo_zero : ∀ n, sumTo (fun _ => 0) n = 0
  | 0 => rfl
  | n + 1 => by rw [sumTo, sumTo_zero n]; rfl
theorem sumTo_const (c : Int) : ∀ n : Nat, sumTo (fun _ => c) n = c * n
  | 0 => by simp [sumTo]
  | n + 1 => by
    rw [sumTo, sumTo_const c n, Int.natCast_succ, Int.mul_add, Int.mul_one]
theorem sumTo_swap (f : Nat → Nat → Int) (m : Nat) : ∀ n, sumTo (fun i => sumTo (fun k => f i k) m) n = sumTo (fun k => sumTo (fun i => f i k) n) m
  | 0 => by
    show (0 : Int) = sumTo (fun _ => 0) m
    rw [sumTo_zero]
  | n + 1 => by
    rw [sumTo, sumTo_swap f m n, ← sumTo_add]
    rfl
theorem sumTo_one (j : Nat) (c : Nat → Int) : ∀ n, sumTo (fun i => if i = j then c i else 0) n = if j < n then c j else 0
  | 0 => by simp [sumTo]
  | n + 1 => by
    rw [sumTo, sumTo_one j c n]
    by_cases h : n = j
    · subst h
      simp
    · by_cases h2 : j < n
      · rw [if_pos h2, if_neg h, if_pos (by omega)]
        omega
      · rw [if_neg h2, if_neg h, if_neg (by omega)]
        rfl
/-- Who beats whom, of n. -/
structure Beats (n : Nat) (f : Nat → Nat → Int) : Prop where
  one : ∀ i k, i < n → k < n → f i k = 0 ∨ f i k = 1
  self : ∀ i, i < n → f i i = 0
  pair : ∀ i k, i < n → k < n → i ≠ k → f i k + f k i = 1
def winS (f : Nat → Nat → Int) (n i : Nat) : Int := sumTo (f i) n
def tripS (f : Nat → Nat → Int) (n : Nat) : Int := sumTo (fun i => sumTo (fun k => sumTo (fun m => f i k * f k m * f m i) n) n) n
theorem Beats.sum {n : Nat} {f : Nat → Nat → Int} (h : Beats n f) {i k : Nat} (hi : i < n) (hk : k < n) : f i k + f k i = 1 - if k = i then 1 else 0 := by
  by_cases e : k = i
  · subst e
    rw [h.self k hk, if_pos rfl]
    rfl
  · rw [h.pair i k hi hk (fun e2 => e e2.symm), if_neg e]
    rfl
theorem Beats.wins {n : Nat} {f : Nat → Nat → Int} (h : Beats n f) : 2 * sumTo (winS f n) n = (n : Int) * n - n := by
  have e1 : sumTo (winS f n) n = sumTo (fun i => sumTo (fun k => f k i) n) n := sumTo_swap f n n
  have e2 : sumTo (winS f n) n + sumTo (winS f n) n = sumTo (fun i => sumTo (fun k => 1 + (-1) * if k = i then 1 else 0) n) n := by
    rw [show sumTo (winS f n) n + sumTo (winS f n) n = sumTo (winS f n) n + sumTo (fun i => sumTo (fun k => f k i) n) n by rw [← e1], ← sumTo_add]
    refine sumTo_congr n fun i hi => ?_
    unfold winS
    rw [← sumTo_add]
    refine sumTo_congr n fun k hk => ?_
    rw [h.sum hi hk]
    omega
  have e3 : sumTo (fun i => sumTo (fun k => 1 + (-1) * if k = i then 1 else 0) n) n = (n : Int) * n - n := by
    rw [sumTo_congr n (g := fun _ => (n : Int) - 1)]
    · rw [sumTo_const, Int.sub_mul, Int.one_mul]
    · intro i hi
      rw [sumTo_add, sumTo_const, sumTo_mul, sumTo_one i (fun _ => 1), if_pos hi]
      omega
  omega
theorem Beats.lost {n : Nat} {f : Nat → Nat → Int} (h : Beats n f) {k : Nat} (hk : k < n) : sumTo (fun i => f i k) n = n - 1 - winS f n k := by
  have e : sumTo (fun i => f i k) n + winS f n k = sumTo (fun i => 1 + (-1) * if i = k then 1 else 0) n := by
    unfold winS
    rw [← sumTo_add]
    refine sumTo_congr n fun i hi => ?_
    have := h.sum hk hi
    omega
  rw [sumTo_add, sumTo_const, sumTo_mul, sumTo_one k (fun _ => 1), if_pos hk] at e
  omega
/-- Pairs that one strip beats, in the order in which one beats the other. -/
def outS (f : Nat → Nat → Int) (n i : Nat) : Int := sumTo (fun k => sumTo (fun m => f i k * f k m * f i m) n) n
theorem Beats.outs {n : Nat} {f : Nat → Nat → Int} (h : Beats n f) {i : Nat} (hi : i < n) : 2 * outS f n i = winS f n i * winS f n i - winS f n i := by
  have e1 : outS f n i = sumTo (fun k => sumTo (fun m => f i m * f m k * f i k) n) n := sumTo_swap (fun k m => f i k * f k m * f i m) n n
  have e2 : outS f n i + outS f n i = sumTo (fun k => sumTo (fun m => f i k * f i m + (-1) * if m = k then f i k * f i m else 0) n) n := by
    rw [show outS f n i + outS f n i = outS f n i + sumTo (fun k => sumTo (fun m => f i m * f m k * f i k) n) n by rw [← e1]]
    unfold outS
    rw [← sumTo_add]
    refine sumTo_congr n fun k hk => ?_
    rw [← sumTo_add]
    refine sumTo_congr n fun m hm => ?_
    have hs := h.sum hk hm
    have e : f i k * f k m * f i m + f i m * f m k * f i k = f i k * f i m * (f k m + f m k) := by
      rw [Int.mul_add, Int.mul_right_comm (f i k) (f k m) (f i m), Int.mul_comm (f i m) (f m k), Int.mul_assoc (f m k), Int.mul_comm (f m k), Int.mul_comm (f i m) (f i k)]
    rw [e, hs]
    by_cases hmk : m = k
    · rw [if_pos hmk, if_pos hmk]
      omega
    · rw [if_neg hmk, if_neg hmk]
      omega
  have e3 : sumTo (fun k => sumTo (fun m => f i k * f i m + (-1) * if m = k then f i k * f i m else 0) n) n = winS f n i * winS f n i - winS f n i := by
    have : ∀ k, k < n → sumTo (fun m => f i k * f i m + (-1) * if m = k then f i k * f i m else 0) n = winS f n i * f i k + (-1) * f i k := by
      intro k hk
      rw [sumTo_add, sumTo_mul, sumTo_mul, sumTo_one k (fun m => f i k * f i m), if_pos hk, Int.mul_comm (f i k) (sumTo _ n)]
      have : f i k * f i k = f i k := by rcases h.one i k hi hk with e | e <;> rw [e] <;> rfl
      rw [this]
      rfl
    rw [sumTo_congr n this, sumTo_add, sumTo_mul, sumTo_mul]
    show winS f n i * winS f n i + -1 * winS f n i = _
    omega
  omega
theorem Beats.trips {n : Nat} {f : Nat → Nat → Int} (h : Beats n f) : tripS f n = sumTo (fun k => (n - 1 - winS f n k) * winS f n k) n - sumTo (outS f n) n := by
  have e : tripS f n + sumTo (outS f n) n = sumTo (fun i => sumTo (fun k => f i k * winS f n k) n) n := by
    unfold tripS outS
    rw [← sumTo_add]
    refine sumTo_congr n fun i hi => ?_
    rw [← sumTo_add]
    refine sumTo_congr n fun k hk => ?_
    rw [← sumTo_add]
    unfold winS
    rw [← sumTo_mul]
    refine sumTo_congr n fun m hm => ?_
    have hs := h.sum hi hm
    have hz : m = i → f i k * f k m = 0 := by
      rintro rfl
      rcases h.one m k hm hk with e | e
      · rw [e, Int.zero_mul]
      · by_cases hmk : m = k
        · subst hmk
          rw [h.self m hm] at e
          cases e
        · have := h.pair m k hm hk hmk
          rw [show f k m = 0 by omega, Int.mul_zero]
    rw [← Int.mul_add, Int.add_comm, hs]
    by_cases hmi : m = i
    · rw [hz hmi]
      simp
    · rw [if_neg hmi]
      omega
  have e2 : sumTo (fun i => sumTo (fun k => f i k * winS f n k) n) n = sumTo (fun k => (n - 1 - winS f n k) * winS f n k) n := by
    rw [sumTo_swap (fun i k => f i k * winS f n k) n n]
    refine sumTo_congr n fun k hk => ?_
    rw [← h.lost hk, ← Int.mul_comm (winS f n k), ← sumTo_mul]
    exact sumTo_congr n fun i _ => Int.mul_comm _ _
  omega
theorem Beats.ring4 {n : Nat} {f : Nat → Nat → Int} (h : Beats n f) : 4 * tripS f n = (2 * n - 1) * (n * n - n) - 6 * sumTo (fun k => winS f n k * winS f n k) n := by
  have h1 := h.trips
  have h2 := h.wins
  have e1 : sumTo (fun k => (n - 1 - winS f n k) * winS f n k) n = (n - 1) * sumTo (winS f n) n - sumTo (fun k => winS f n k * winS f n k) n := by
    rw [sumTo_congr n (g := fun k => (n - 1) * winS f n k + (-1) * (winS f n k * winS f n k)) (fun k _ => by rw [Int.sub_mul]; omega), sumTo_add, sumTo_mul, sumTo_mul]
    show (_ : Int) * sumTo (winS f n) n + _ = _
    omega
  have e2 : 2 * sumTo (outS f n) n = sumTo (fun k => winS f n k * winS f n k) n - sumTo (winS f n) n := by
    rw [← sumTo_mul, sumTo_congr n (g := fun k => winS f n k * winS f n k + (-1) * winS f n k) (fun k hk => by rw [h.outs hk]; omega), sumTo_add, sumTo_mul]
    show _ + -1 * sumTo (winS f n) n = _
    omega
  generalize hW : sumTo (winS f n) n = W at *
  generalize sumTo (fun k => winS f n k * winS f n k) n = Q at *
  generalize sumTo (outS f n) n = O at *
  have e3 : 2 * ((n : Int) - 1) * W = ((n : Int) - 1) * (n * n - n) := by rw [Int.mul_comm 2, Int.mul_assoc, h2]
  have e4 : (2 * (n : Int) - 1) * (n * n - n) = 2 * ((n - 1) * (n * n - n)) + (n * n - n) := by
    rw [show (2 * (n : Int) - 1) = 2 * (n - 1) + 1 by omega, Int.add_mul, Int.mul_assoc, Int.one_mul]
  have e5 : 2 * ((n : Int) - 1) * W = 2 * (((n : Int) - 1) * W) := Int.mul_assoc _ _ _
  rw [h1, e1, e4, ← e3, e5]
  omega
end Go.Proofs.Ytahkihifgafbnaa
