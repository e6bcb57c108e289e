/- The document's Turn. -/
import Derived.Test.YtmklpldmgmjlkaaTB
namespace Go.Proofs.Ytmklpldmgmjlkaa
open Go.RowKit

/-- New answers that the call owns, and OK. -/
def Turned (w : World) (L : List An) (e : Ending) (w' : World) : Prop := ∃ v, e = .returned (.tuple #[v, .int .i64 0]) ∧ OwnA w.heap.size w' v L ∧ Bel w w'

end Go.Proofs.Ytmklpldmgmjlkaa

