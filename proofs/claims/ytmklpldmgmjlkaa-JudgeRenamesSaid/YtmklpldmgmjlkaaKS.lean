/- Records: judge.Next, walked. -/
import Derived.Test.YtmklpldmgmjlkaaKQ
namespace Go.Proofs.Ytmklpldmgmjlkaa
open Go.RowKit

def noNext (e : Int) : Value := .tuple #[.slice none 0 0, .bool false, .int .i64 e]
/-- What Next returns while several grades are left. -/
def NextOk (w : World) (g : Nat) (L : List An) (e : Ending) (w' : World) : Prop :=
  ∃ (A : Option Addr) (n c x y : Nat), e = .returned (.tuple #[.slice A n c, .bool true, .int .i64 0]) ∧ n = (pk (cntI L) x y g).2.2.length ∧ Bel w w' ∧ Ints w' A (pk (cntI L) x y g).2.2 ∧
    x ≤ zA L g ∧ y ≤ zB L g - zA L g ∧ 1 ≤ nd (zA L g) (zB L g - zA L g) ∧ good (nd (zA L g) (zB L g - zA L g) - 1) (zA L g) (zB L g - zA L g) x y = true

end Go.Proofs.Ytmklpldmgmjlkaa

