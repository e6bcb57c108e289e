/- Judging: the document's Need and Bound. -/
import Derived.Test.YtmklpldmgmjlkaaJM
namespace Go.Proofs.Ytmklpldmgmjlkaa
open Go.RowKit

/-- What Bound answers. -/
def boundV (a b : Int) : Int := if inS a b then ((bd a.toNat b.toNat : Nat) : Int) else 0
theorem wBound_any (a b : Int) (w : World) : Calls Try.prog 18 #[.int .i64 a, .int .i64 b] w fun e w' => e = .returned (.tuple #[.int .i64 (boundV a b), .int .i64 (errS a b)]) ∧ Bel w w' := by
  by_cases h : inS a b
  · obtain ⟨a, b, rfl, rfl, ha, hb⟩ := inS_nat h
    have e1 : boundV a b = ((bd a b : Nat) : Int) := by unfold boundV; rw [if_pos h]; rfl
    rw [e1, errS_ok h]
    exact wBound_ok a b w ha hb
  · have e1 : boundV a b = 0 := by unfold boundV; rw [if_neg h]
    rw [e1, errS_no h]
    exact wBound_err a b w h
end Go.Proofs.Ytmklpldmgmjlkaa

