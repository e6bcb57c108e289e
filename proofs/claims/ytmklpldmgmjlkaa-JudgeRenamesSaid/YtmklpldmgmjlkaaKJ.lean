/- The document's against; lists compared; long records. -/
import Derived.Test.YtmklpldmgmjlkaaKI
namespace Go.Proofs.Ytmklpldmgmjlkaa
open Go.RowKit

/-- The counts against the grades. -/
def countL (L : List An) (g : Nat) : List Int := (List.range g).map (cntI L)
theorem countL_snoc (L : List An) (k : Nat) : countL L (k + 1) = countL L k ++ [cntI L k] := by
  unfold countL
  rw [List.range_succ, List.map_append]
  rfl
theorem countL_length (L : List An) (k : Nat) : (countL L k).length = k := by simp [countL]
theorem ag_eq (ns : List Int) (y : Bool) (g : Int) : (hasB ns g != y) = ag (ns, y) g := by
  unfold ag
  cases hasB ns g <;> cases y <;> rfl

end Go.Proofs.Ytmklpldmgmjlkaa

