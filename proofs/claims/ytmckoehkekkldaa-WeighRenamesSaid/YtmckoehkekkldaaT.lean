/- The document's search for marks that add up: plain, and lists of marks. -/
import Derived.Test.YtmckoehkekkldaaS
namespace Go.Proofs.Ytmckoehkekkldaa
open Go.RowKit

/-- Three numbers. -/
abbrev M3 := Int × Int × Int
/-- Of the marks, each as it is or with the opposite sign: do so many add up to what is wanted? -/
def someL : List M3 → Nat → Int → Int → Int → Bool
  | [], 0, x, y, z => x == 0 && (y == 0 && z == 0)
  | [], _ + 1, _, _, _ => false
  | _ :: _, 0, x, y, z => x == 0 && (y == 0 && z == 0)
  | m :: l, k + 1, x, y, z => if k > l.length then false else someL l k (x - m.1) (y - m.2.1) (z - m.2.2) || (someL l k (x + m.1) (y + m.2.1) (z + m.2.2) || someL l (k + 1) x y z)
theorem someL_zero (l : List M3) (x y z : Int) : someL l 0 x y z = (x == 0 && (y == 0 && z == 0)) := by cases l <;> rfl
theorem someL_many (l : List M3) (k : Nat) (x y z : Int) (h : k > l.length) : someL l k x y z = false := by
  cases l with
  | nil =>
    cases k with
    | zero => simp at h
    | succ k => rfl
  | cons m l =>
    cases k with
    | zero => simp at h
    | succ k => rw [someL, if_pos (by simpa using h)]
/-- The number n as a mark. -/
def tri (n : Nat) (i : Nat) : Int := if i = 0 then ((n % 3 : Nat) : Int) - 1 else if i = 1 then ((n / 3 % 3 : Nat) : Int) - 1 else ((n / 9 : Nat) : Int) - 1
/-- Its first number that is not 0, of the first i. -/
def firstT (n : Nat) : Nat → Int
  | 0 => 0
  | i + 1 => if firstT n i = 0 then tri n i else firstT n i
def rightT (n k : Nat) : Nat → Bool
  | 0 => true
  | i + 1 => rightT n k i && (decide (i < k) || decide (tri n i = 0))
def inT (k n : Nat) : Bool := rightT n k 3 && decide (firstT n 3 = 1)
def triL (n : Nat) : M3 := (tri n 0, tri n 1, tri n 2)
/-- The marks of so many weighings of which the first number that is not 0 is 1. -/
def mksL (k m : Nat) : List M3 := ((List.range m).filter (inT k)).map triL
theorem mksL_succ (k m : Nat) : mksL k (m + 1) = if inT k m = true then mksL k m ++ [triL m] else mksL k m := by
  unfold mksL
  rw [List.range_succ, List.filter_append, List.map_append]
  cases h : inT k m <;> simp [h]
theorem mksL_length (k m : Nat) : (mksL k m).length ≤ m := by
  unfold mksL
  rw [List.length_map]
  exact Nat.le_trans (List.length_filter_le _ _) (by simp)
theorem tri_bd (n i : Nat) (hn : n < 27) : -1 ≤ tri n i ∧ tri n i ≤ 1 := by
  unfold tri
  split
  · omega
  · split <;> omega
theorem mksL_bd {k m : Nat} (hm : m ≤ 27) : ∀ x ∈ mksL k m, (-1 ≤ x.1 ∧ x.1 ≤ 1) ∧ (-1 ≤ x.2.1 ∧ x.2.1 ≤ 1) ∧ (-1 ≤ x.2.2 ∧ x.2.2 ≤ 1) := by
  intro x hx
  obtain ⟨n, hn, rfl⟩ := List.mem_map.1 hx
  have hl := List.mem_range.1 (List.mem_filter.1 hn).1
  exact ⟨tri_bd n 0 (by omega), tri_bd n 1 (by omega), tri_bd n 2 (by omega)⟩
def canB (lots k : Nat) : Bool := someL (mksL k 27) lots 0 0 0
/-- What the document's search finds is what the program says. -/
theorem canB_eq : ∀ k, k < 4 → ∀ lots, lots < 14 → 0 < lots → canB lots k = (decide (3 ≤ lots) && decide ((lots : Int) ≤ mostN k)) := by decide +kernel
end Go.Proofs.Ytmckoehkekkldaa
