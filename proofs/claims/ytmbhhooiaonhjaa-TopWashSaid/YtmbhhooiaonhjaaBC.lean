/- The document's Join. -/
import Derived.Test.YtmbhhooiaonhjaaBA
namespace Go.Proofs.Ytmbhhooiaonhjaa
open Go.RowKit

end Go.Proofs.Ytmbhhooiaonhjaa

