/- The document's masses and lots. -/
import Derived.Test.YtmbhhooiaonhjaaAB
import Derived.Deep.OwnRows
namespace Go.Proofs.Ytmbhhooiaonhjaa
open Go.RowKit

theorem infoInt : (Try.prog.info? 3).map (fun i => (i.zero, i.size, i.bytes)) = some (some (.int .i64 0), 1, 8) := by kernel_rfl
theorem massF_zero {gs : List (Int × Int)} (h : Fit gs) : massF gs 0 = 0 := by
  induction gs with
  | nil => rfl
  | cons g r ih =>
    have h2 := h g (by simp)
    have e : massF (g :: r) 0 = (if g.1 = ((0 : Nat) : Int) then g.2 else 0) + massF r 0 := by simp [massF]
    rw [e, ih fun x hx => h x (by simp [hx]), if_neg (by omega)]
    rfl
/-- A new slice of the masses by size. -/
def MadeInts (w : World) (f : Nat → Int) (e : Ending) (w' : World) : Prop :=
  ∃ g, e = .returned (.slice (some ⟨g, 0, none⟩) 21 21) ∧ w.heap.size ≤ g ∧ Bel w w' ∧ Row w' g 21 21 f

/-- A new slice that reads as l. -/
def MadeLot (w : World) (l : List (Int × Int)) (e : Ending) (w' : World) : Prop :=
  ∃ A n c, e = .returned (.slice A n c) ∧ n = l.length ∧ n ≤ c ∧ c ≤ maxLen ∧ Bel w w' ∧ Prs w' A l

end Go.Proofs.Ytmbhhooiaonhjaa

