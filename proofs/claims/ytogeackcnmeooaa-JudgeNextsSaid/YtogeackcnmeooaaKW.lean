/- Records: the need is smaller after both answers. -/
import Derived.Test.YtogeackcnmeooaaKV
namespace Go.Proofs.Ytogeackcnmeooaa
open Go.RowKit

theorem next_less {L : List An} {g x y : Nat} (hg : g ≤ 16) (hx : x ≤ zA L g) (hy : y ≤ zB L g - zA L g) (h1 : 1 ≤ nd (zA L g) (zB L g - zA L g)) (hG : good (nd (zA L g) (zB L g - zA L g) - 1) (zA L g) (zB L g - zA L g) x y = true) (yes : Bool) :
    nd (zA (L ++ [((pk (cntI L) x y g).2.2, yes)]) g) (zB (L ++ [((pk (cntI L) x y g).2.2, yes)]) g - zA (L ++ [((pk (cntI L) x y g).2.2, yes)]) g) < nd (zA L g) (zB L g - zA L g) := by
  obtain ⟨p1, p2, p3, p4⟩ := pk_count L x y g
  obtain ⟨m1, m2⟩ := more_state L (pk (cntI L) x y g).2.2 yes g
  have hz := z_bd L g
  obtain ⟨g1, g2⟩ := good_iff.1 hG
  have e1 : nIn L (pk (cntI L) x y g).2.2 0 g = x := by omega
  have e2 : nIn L (pk (cntI L) x y g).2.2 1 g = y := by omega
  rw [m2, m1, e1, e2]
  generalize zA L g = a at *
  generalize hb : zB L g - a = b at *
  generalize hq : nd a b = q at *
  cases yes
  · have := (nd_le (q := q - 1) (a := a - x) (b := b - y + x) (by omega) (by omega)).1 g2
    simp
    omega
  · have := (nd_le (q := q - 1) (a := x) (b := y + (a - x)) (by omega) (by omega)).1 g1
    simp
    omega
theorem rIsNext_any (g : Nat) (A : Option Addr) (n c : Nat) (L : List An) (A1 : Option Addr) (n1 c1 x y : Nat) (w : World) (hR : Ans w A L) (hn : L.length = n) (h12 : n < 12) (he : errA (g : Int) L = 0)
    (hI : Ints w A1 (pk (cntI L) x y g).2.2) (hn1 : n1 = (pk (cntI L) x y g).2.2.length)
    (hx : x ≤ zA L g) (hy : y ≤ zB L g - zA L g) (h1 : 1 ≤ nd (zA L g) (zB L g - zA L g)) (hG : good (nd (zA L g) (zB L g - zA L g) - 1) (zA L g) (zB L g - zA L g) x y = true) :
    Calls Try.prog 76 #[.int .i64 (g : Int), .slice A n c, .slice A1 n1 c1] w fun e w' => e = .returned (.bool true) ∧ Bel w w' := by
  obtain ⟨⟨g1, g2⟩, -, -⟩ := errA_zero he
  have hl := pk_len (cntI L) x y g
  have hm : n1 ≤ maxLen := by unfold maxLen; omega
  have hS := pk_set (cntI L) x y g (g : Int) (Int.le_refl _)
  have hN := next_less (by omega) hx hy h1 hG
  rcases Nat.eq_zero_or_pos n with h0 | h0
  · subst h0
    exact rIsNext_none g A c L A1 n1 c1 _ w hR hn he hI hn1.symm hm hS hN
  · exact rIsNext_some g A n c L A1 n1 c1 _ w hR hn h12 h0 he hI hn1.symm hm hS hN
end Go.Proofs.Ytogeackcnmeooaa
