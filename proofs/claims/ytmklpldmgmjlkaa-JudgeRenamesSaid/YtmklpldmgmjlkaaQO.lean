/- The laws' arguments, opened. -/
import Derived.Test.YtmklpldmgmjlkaaKD
import Derived.ProofKit
import Derived.OpenShut
import Derived.Lib.SmallJoins
import Derived.ChangeOld
import Derived.SizedLaws
namespace Go.Proofs.Ytmklpldmgmjlkaa
open Go.ChangeShapes Go.WideShapes Go.ChangeAt Go.RowKit Go.Joins

/-- What Need answers. -/
def needV (a b : Int) : Int := if inS a b then ((nd a.toNat b.toNat : Nat) : Int) else 0
theorem wNeed_any (a b : Int) (w : World) : Calls Try.prog 16 #[.int .i64 a, .int .i64 b] w fun e w' => e = .returned (.tuple #[.int .i64 (needV a b), .int .i64 (errS a b)]) ∧ Bel w w' := by
  by_cases h : inS a b
  · obtain ⟨a, b, rfl, rfl, ha, hb⟩ := inS_nat h
    have e1 : needV a b = ((nd a b : Nat) : Int) := by unfold needV; rw [if_pos h]; rfl
    rw [e1, errS_ok h]
    exact wNeed_ok a b w ha hb
  · have e1 : needV a b = 0 := by unfold needV; rw [if_neg h]
    rw [e1, errS_no h]
    exact wNeed_err a b w h
theorem own : ownKnob Try.prog.godebug = none := by kernel_rfl
section
variable {H : Type} {enc : TypeId × Value → H} {W : World} {r : Reach} {b0 base : Nat} {sp : Nat → Bool} {held : Bool} {v : Value} {d : DataW H} {p : List MemPlace}
end
end Go.Proofs.Ytmklpldmgmjlkaa

