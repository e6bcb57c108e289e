/- Judging: the document's Enough, Need and Bound. -/
import Derived.Test.YtmklpldmgmjlkaaJL
namespace Go.Proofs.Ytmklpldmgmjlkaa
open Go.RowKit

def rowL (F : Nat → Nat → Bool) (a : Nat) : List Value := (List.range 33).map fun b => .bool (F a b)
theorem rowL_at (F : Nat → Nat → Bool) (a : Nat) {b : Nat} (hb : b < 33) : (rowL F a)[b]? = some (.bool (F a b)) := by simp [rowL, hb]
theorem tab_row (F : Nat → Nat → Bool) {a : Nat} (ha : a < 33) : List.take 33 (List.drop (a * 33) (tabL F)) = rowL F a := by
  apply List.ext_getElem?
  intro b
  by_cases hb : b < 33
  · rw [List.getElem?_take_of_lt (by omega), List.getElem?_drop, tabL_at F (by omega), rowL_at F a hb, show (a * 33 + b) / 33 = a from by omega, show (a * 33 + b) % 33 = b from by omega]
  · rw [List.getElem?_eq_none (by simp; omega), List.getElem?_eq_none (by simp [rowL]; omega)]
end Go.Proofs.Ytmklpldmgmjlkaa

