/- Records: the need is smaller after both answers. -/
import Derived.Test.YtjcompmmjcefhaaKV
namespace Go.Proofs.Ytjcompmmjcefhaa
open Go.RowKit

theorem next_less {L : List An} {g x y : Nat} (hg : g ≤ 16) (hx : x ≤ zA L g) (hy : y ≤ zB L g - zA L g) (h1 : 1 ≤ nd (zA L g) (zB L g - zA L g)) (hG : good (nd (zA L g) (zB L g - zA L g) - 1) (zA L g) (zB L g - zA L g) x y = true) (yes : Bool) :
    nd (zA (L ++ [((pk (cntI L) x y g).2.2, yes)]) g) (zB (L ++ [((pk (cntI L) x y g).2.2, yes)]) g - zA (L ++ [((pk (cntI L) x y g).2.2, yes)]) g) < nd (zA L g) (zB L g - zA L g) := by
  obtain ⟨p1, p2, p3, p4⟩ := pk_count L x y g
  obtain ⟨m1, m2⟩ := more_state L (pk (cntI L) x y g).2.2 yes g
  have hz := z_bd L g
  obtain ⟨g1, g2⟩ := good_iff.1 hG
  have e1 : nIn L (pk (cntI L) x y g).2.2 0 g = x := by omega
  have e2 : nIn L (pk (cntI L) x y g).2.2 1 g = y := by omega
  rw [m2, m1, e1, e2]
  generalize zA L g = a at *
  generalize hb : zB L g - a = b at *
  generalize hq : nd a b = q at *
  cases yes
  · have := (nd_le (q := q - 1) (a := a - x) (b := b - y + x) (by omega) (by omega)).1 g2
    simp
    omega
  · have := (nd_le (q := q - 1) (a := x) (b := y + (a - x)) (by omega) (by omega)).1 g1
    simp
    omega
end Go.Proofs.Ytjcompmmjcefhaa

