/- The laws' arguments, opened. -/
import Derived.Test.YtogeackcnmeooaaKD
import Derived.ProofKit
import Derived.OpenShut
import Derived.Lib.SmallJoins
import Derived.ChangeOld
import Derived.SizedLaws
namespace Go.Proofs.Ytogeackcnmeooaa
open Go.ChangeShapes Go.WideShapes Go.ChangeAt Go.RowKit Go.Joins

/-- What Need answers. -/
def needV (a b : Int) : Int := if inS a b then ((nd a.toNat b.toNat : Nat) : Int) else 0
theorem wNeed_any (a b : Int) (w : World) : Calls Try.prog 36 #[.int .i64 a, .int .i64 b] w fun e w' => e = .returned (.tuple #[.int .i64 (needV a b), .int .i64 (errS a b)]) ∧ Bel w w' := by
  by_cases h : inS a b
  · obtain ⟨a, b, rfl, rfl, ha, hb⟩ := inS_nat h
    have e1 : needV a b = ((nd a b : Nat) : Int) := by unfold needV; rw [if_pos h]; rfl
    rw [e1, errS_ok h]
    exact wNeed_ok a b w ha hb
  · have e1 : needV a b = 0 := by unfold needV; rw [if_neg h]
    rw [e1, errS_no h]
    exact wNeed_err a b w h
theorem own : ownKnob Try.prog.godebug = none := by kernel_rfl
theorem cellsLawState : Try.prog.cellsOf 28 = 2 := by kernel_rfl
theorem cellsLawAsk : Try.prog.cellsOf 30 = 3 := by kernel_rfl
section
variable {H : Type} {enc : TypeId × Value → H} {W : World} {r : Reach} {b0 base : Nat} {sp : Nat → Bool} {held : Bool} {v : Value} {d : DataW H} {p : List MemPlace}
set_option maxRecDepth 100000 in
theorem open_state (hv : Value.okWide Try.prog W r b0 28 v) (h : DataW.Trod enc Try.prog W base sp held 28 v d p) : ∃ x y : Int, v = .agg #[.int .i64 x, .int .i64 y] := by
  obtain ⟨c0, c1, y0, y1, m, rfl, -, -, hy0, hy1⟩ := open_agg2 Try.underlying28 (by kernel_rfl) cellsLawState hv h
  obtain ⟨a, e0, -, -⟩ := DataW.trod_int Try.underlying3 hy0
  obtain ⟨b, e1, -, -⟩ := DataW.trod_int Try.underlying3 hy1
  simp at e0 e1
  subst e0 e1
  exact ⟨a, b, rfl⟩
set_option maxRecDepth 100000 in
theorem open_ask (hv : Value.okWide Try.prog W r b0 30 v) (h : DataW.Trod enc Try.prog W base sp held 30 v d p) : ∃ (x y : Int) (z : Bool), v = .agg #[.int .i64 x, .int .i64 y, .bool z] := by
  obtain ⟨c0, c1, c2, y0, y1, y2, m, rfl, -, -, hy0, hy1, hy2⟩ := open_agg3 Try.underlying30 (by kernel_rfl) cellsLawAsk hv h
  obtain ⟨a, e0, -, -⟩ := DataW.trod_int Try.underlying3 hy0
  obtain ⟨b, e1, -, -⟩ := DataW.trod_int Try.underlying3 hy1
  obtain ⟨c, e2, -⟩ := DataW.trod_bool Try.underlying4 hy2
  simp at e0 e1 e2
  subst e0 e1 e2
  exact ⟨a, b, c, rfl⟩
end
end Go.Proofs.Ytogeackcnmeooaa
