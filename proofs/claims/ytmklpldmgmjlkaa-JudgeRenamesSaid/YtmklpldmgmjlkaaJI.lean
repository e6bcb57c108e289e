/- Judging: After, the document's and the program's; the document's Weight. -/
import Derived.Test.YtmklpldmgmjlkaaQO
namespace Go.Proofs.Ytmklpldmgmjlkaa
open Go.RowKit

def within (n lo hi : Int) : Bool := decide (lo ≤ n) && decide (n ≤ hi)
theorem within_iff {n lo hi : Int} : within n lo hi = true ↔ lo ≤ n ∧ n ≤ hi := by simp [within]
theorem within_any (n lo hi : Int) (w : World) :
    Calls Try.prog 32 #[.int .i64 n, .int .i64 lo, .int .i64 hi] w fun e w' => e = .returned (.bool (within n lo hi)) ∧ w = w' := by
  go_enter Try.func32, Try.ntmps32
  go_wp2
  all_goals (go_ret; exact ⟨by simp [within]; omega, rfl⟩)
theorem within_yes (n lo hi : Int) (w : World) (h : lo ≤ n ∧ n ≤ hi) :
    Calls Try.prog 32 #[.int .i64 n, .int .i64 lo, .int .i64 hi] w fun e w' => e = .returned (.bool true) ∧ w = w' := by
  have := within_any n lo hi w
  rwa [within_iff.2 h] at this
theorem within_no (n lo hi : Int) (w : World) (h : ¬ (lo ≤ n ∧ n ≤ hi)) :
    Calls Try.prog 32 #[.int .i64 n, .int .i64 lo, .int .i64 hi] w fun e w' => e = .returned (.bool false) ∧ w = w' := by
  have := within_any n lo hi w
  have e : within n lo hi = false := by rw [Bool.eq_false_iff]; exact fun k => h (within_iff.1 k)
  rwa [e] at this
/-- The state after an answer. -/
def inQ (a b x y : Int) : Prop := 0 ≤ x ∧ x ≤ a ∧ 0 ≤ y ∧ y ≤ b
instance (a b x y : Int) : Decidable (inQ a b x y) := by unfold inQ; infer_instance
def aft1 (a b x y : Int) (yes : Bool) : Int := if inS a b ∧ inQ a b x y then if yes then x else a - x else 0
def aft2 (a b x y : Int) (yes : Bool) : Int := if inS a b ∧ inQ a b x y then if yes then y + a - x else b - y + x else 0
def errW (a b x y : Int) : Int := if inS a b then if inQ a b x y then 0 else 8 else 1
theorem aft_e1 {a b x y : Int} {yes : Bool} (h : ¬ inS a b) : aft1 a b x y yes = 0 ∧ aft2 a b x y yes = 0 ∧ errW a b x y = 1 :=
  ⟨if_neg (fun k => h k.1), if_neg (fun k => h k.1), if_neg h⟩
theorem aft_e8 {a b x y : Int} {yes : Bool} (h : inS a b) (h2 : ¬ inQ a b x y) : aft1 a b x y yes = 0 ∧ aft2 a b x y yes = 0 ∧ errW a b x y = 8 :=
  ⟨if_neg (fun k => h2 k.2), if_neg (fun k => h2 k.2), by unfold errW; rw [if_pos h, if_neg h2]⟩
theorem aft_ok {a b x y : Int} {yes : Bool} (h : inS a b) (h2 : inQ a b x y) : aft1 a b x y yes = (if yes then x else a - x) ∧ aft2 a b x y yes = (if yes then y + a - x else b - y + x) ∧ errW a b x y = 0 :=
  ⟨if_pos ⟨h, h2⟩, if_pos ⟨h, h2⟩, by unfold errW; rw [if_pos h, if_pos h2]⟩
theorem errS_eq (a b : Int) : errQ a b 0 = errS a b := by
  unfold errQ errS
  by_cases h : inS a b
  · rw [if_pos ⟨h, by omega, by omega⟩, if_pos h]
  · rw [if_neg (fun k => h k.1), if_neg h]
theorem ret_ints3 {a b c a' b' c' : Int} (h1 : a = a') (h2 : b = b') (h3 : c = c') : Ending.returned (.tuple #[.int .i64 a, .int .i64 b, .int .i64 c]) = .returned (.tuple #[.int .i64 a', .int .i64 b', .int .i64 c']) := by rw [h1, h2, h3]
/-- What Weight answers. -/
def weightV (a b q : Int) : Int := if inS a b ∧ 0 ≤ q ∧ q ≤ 12 then a * (q + 1) + b else 0
theorem wWeight_any (a b q : Int) (w : World) :
    Calls Try.prog 17 #[.int .i64 a, .int .i64 b, .int .i64 q] w fun e w' => e = .returned (.tuple #[.int .i64 (weightV a b q), .int .i64 (errQ a b q)]) ∧ Bel w w' := by
  by_cases h : inS a b ∧ 0 ≤ q ∧ q ≤ 12
  · have e1 : weightV a b q = a * (q + 1) + b := if_pos h
    obtain ⟨h1, h2, h3⟩ := h
    rw [errQ_ok h1 h2 h3, e1]
    obtain ⟨a, b, rfl, rfl, ha, hb⟩ := inS_nat h1
    obtain ⟨q, rfl⟩ := Int.eq_ofNat_of_zero_le h2
    have := wWeight_ok a b q w ha hb (by omega)
    simpa using this
  · have e1 : weightV a b q = 0 := if_neg h
    rw [errQ_no h, e1]
    exact wWeight_err a b q w h
end Go.Proofs.Ytmklpldmgmjlkaa

