/- The document's IsFiner. -/
import Derived.Test.YtmbhhooiaonhjaaAE
namespace Go.Proofs.Ytmbhhooiaonhjaa
open Go.RowKit

end Go.Proofs.Ytmbhhooiaonhjaa

