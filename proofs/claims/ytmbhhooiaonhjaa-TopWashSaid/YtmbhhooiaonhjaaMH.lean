/- The document's Work. -/
import Derived.Test.YtmbhhooiaonhjaaMG
namespace Go.Proofs.Ytmbhhooiaonhjaa
open Go.RowKit

def diffB (gs hs : List (Int × Int)) : Nat → Int := fun i => sumB gs i - sumB hs i
theorem diffB_bd {gs hs : List (Int × Int)} (h1 : errV gs = 0) (h2 : errV hs = 0) (i : Nat) : (0 ≤ sumB gs i ∧ sumB gs i ≤ 600) ∧ 0 ≤ sumB hs i ∧ sumB hs i ≤ 600 := by
  have a := sumB_bd (i : Int) (fit_of gs h1).mass
  have b := sumB_bd (i : Int) (fit_of hs h2).mass
  have l1 := (errV_zero h1).1
  have l2 := (errV_zero h2).1
  omega
theorem sumTo_bd {D : Nat → Int} (h : ∀ i, -600 ≤ D i ∧ D i ≤ 600) (k : Nat) : -(600 * (k : Int)) ≤ sumTo D k ∧ sumTo D k ≤ 600 * (k : Int) := by
  induction k with
  | zero => simp [sumTo]
  | succ k ih =>
    have := h k
    simp only [sumTo]
    omega
theorem finV_false {gs hs : List (Int × Int)} (h : (finV gs hs).1 = false) : finV gs hs = (false, (finV gs hs).2) := by
  rw [← h]

end Go.Proofs.Ytmbhhooiaonhjaa

