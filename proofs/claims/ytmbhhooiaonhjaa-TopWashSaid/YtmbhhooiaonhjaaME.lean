/- The document's Grind. -/
import Derived.Test.YtmbhhooiaonhjaaMC
import Derived.Test.YtmbhhooiaonhjaaBC
namespace Go.Proofs.Ytmbhhooiaonhjaa
open Go.RowKit

end Go.Proofs.Ytmbhhooiaonhjaa

