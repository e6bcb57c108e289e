/- The document's CheckFiner. -/
import Derived.Test.YtmbhhooiaonhjaaMG
namespace Go.Proofs.Ytmbhhooiaonhjaa
open Go.RowKit

end Go.Proofs.Ytmbhhooiaonhjaa

