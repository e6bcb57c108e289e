/- Two cases as a law's argument, opened. -/
import Derived.Test.YtmckoehkekkldaaZ
namespace Go.Proofs.Ytmckoehkekkldaa
open Go.ChangeShapes Go.WideShapes Go.ChangeAt Go.RowKit Go.Joins

theorem cellsTwo : Try.prog.cellsOf 38 = 4 := by kernel_rfl
section
variable {H : Type} {enc : TypeId × Value → H} {W : World} {base : Nat} {v : Value} {d : DataW H} {p : List MemPlace}
set_option maxRecDepth 100000 in
theorem open_two (hv : Value.okWide Try.prog W .any base 38 v) (h : DataW.Trod enc Try.prog W 0 (fun _ => true) true 38 v d p) : ∃ x y u z : Int, v = .agg #[.int .i64 x, .int .i64 y, .int .i64 u, .int .i64 z] := by
  obtain ⟨cs, rfl, hsz⟩ := okWide_struct Try.underlying38 hv
  obtain ⟨c0, c1, c2, c3, rfl⟩ := array4 (hsz.trans cellsTwo)
  obtain ⟨fuel, hf⟩ := h
  obtain ⟨y0, y1, n, hx, _, h0, h1⟩ := trod_struct2 Try.underlying38 hf
  simp only [Value.cells, cellsCase] at h0 h1
  obtain ⟨z0, z1, n0, _, _, g0, g1⟩ := trod_struct2 Try.underlying24 h0
  obtain ⟨z2, z3, n1, _, _, g2, g3⟩ := trod_struct2 Try.underlying24 h1
  simp only [cellsInt] at g0 g1 g2 g3
  obtain ⟨a, e0, -, -⟩ := DataW.trod_int Try.underlying3 g0
  obtain ⟨b, e1, -, -⟩ := DataW.trod_int Try.underlying3 g1
  obtain ⟨e, e2, -, -⟩ := DataW.trod_int Try.underlying3 g2
  obtain ⟨f, e3, -, -⟩ := DataW.trod_int Try.underlying3 g3
  simp at e0 e1 e2 e3
  subst e0 e1 e2 e3
  exact ⟨a, b, e, f, rfl⟩
end
end Go.Proofs.Ytmckoehkekkldaa
