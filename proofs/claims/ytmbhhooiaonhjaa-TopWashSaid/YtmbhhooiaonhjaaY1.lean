/- The document's Settle. -/
import Derived.Test.YtmbhhooiaonhjaaZ1
import Derived.Test.YtmbhhooiaonhjaaZ2
namespace Go.Proofs.Ytmbhhooiaonhjaa
open Go.RowKit

/-- Settle's answer: two slices of fractions. -/
def TwoPrs (w : World) (xs ys : List (Int × Int)) (e : Ending) (w' : World) : Prop :=
  ∃ A n c B m d, e = .returned (.tuple #[.slice A n c, .slice B m d, .int .i64 0]) ∧ n = xs.length ∧ m = ys.length ∧ Bel w w' ∧ Prs w' A xs ∧ Prs w' B ys

end Go.Proofs.Ytmbhhooiaonhjaa

