/- The program's others. -/
import Derived.Test.YtmklpldmgmjlkaaTA
namespace Go.Proofs.Ytmklpldmgmjlkaa
open Go.RowKit

/-- A new list that the call owns. -/
def NewOwn (w : World) (l : List Int) (e : Ending) (w' : World) : Prop := ∃ v, e = .returned v ∧ Own1 3 w.heap.size w' v l ∧ Bel w w'

end Go.Proofs.Ytmklpldmgmjlkaa

