/- Slices of lines: exchange, clones. -/
import Derived.Test.YtfjegdejfccgaaaZD
import Derived.Great.Walk
namespace Go.Proofs.Ytfjegdejfccgaaa
open Go.RowKit

def swapF (F : Nat → Nat → Int) (a b : Nat) : Nat → Nat → Int := fun j => if j = b then F a else if j = a then F b else F j
def Swapped (w : World) (g : Nat) (F : Nat → Nat → Int) (a b : Nat) (e : Ending) (w' : World) : Prop := e = .returned (.tuple #[]) ∧ w' = (putL (putL w g a (F b)) g b (F a)).drew
set_option maxRecDepth 100000 in
set_option maxHeartbeats 4000000 in
theorem exchange_any (g m n c a b : Nat) (F : Nat → Nat → Int) (w : World) (hM : Mat w g m F) (hn : n ≤ m) (hm : m ≤ 20) (ha : a < n) (hb : b < n) :
    Calls Try.prog 123 #[.slice (some ⟨g, 0, none⟩) n c, .int .i64 (a : Int), .int .i64 (b : Int)] w (Swapped w g F a b) := by
  have hni : (n : Int) ≤ 20 := by omega
  have hai : (a : Int) < (n : Int) := by omega
  have hbi : (b : Int) < (n : Int) := by omega
  obtain ⟨c0, c1, c2, c3, c4, c5⟩ := hM.six (j := a) (by omega)
  obtain ⟨d0, d1, d2, d3, d4, d5⟩ := hM.six (j := b) (by omega)
  obtain ⟨e0, e1, e2, e3, e4, e5⟩ := (hM.line (j := a) (by omega) (F b)).six (j := b) (by omega)
  dsimp only [putL] at e0 e1 e2 e3 e4 e5
  have z := hM.fz
  have z0 := z (a * 6); have z1 := z (a * 6 + 1); have z2 := z (a * 6 + 2); have z3 := z (a * 6 + 3); have z4 := z (a * 6 + 4); have z5 := z (a * 6 + 5)
  have y0 := z (b * 6); have y1 := z (b * 6 + 1); have y2 := z (b * 6 + 2); have y3 := z (b * 6 + 3); have y4 := z (b * 6 + 4); have y5 := z (b * 6 + 5)
  have hl := hM.lt
  clear z
  go_enter Try.func123, Try.ntmps123
  go_wp2
  go_region
  exact Go.Great.bodyPost_end0 rfl rfl ⟨rfl, rfl⟩
end Go.Proofs.Ytfjegdejfccgaaa
