/- Lists of integers that come in, with the range of their numbers. -/
import Derived.Test.YthjjpmcefiddmaaR
namespace Go.Proofs.Ythjjpmcefiddmaa
open Go.ChangeShapes Go.WideShapes Go.ChangeAt Go.RowKit Go.Joins

theorem inI_wf {x : Int} (h : (Lit.int .i64 x).wf = true) : InI x := by
  have h1 : IntKind.i64.min = -9223372036854775808 := by decide
  have h2 : IntKind.i64.max = 9223372036854775807 := by decide
  unfold InI
  simp [Lit.wf, h1, h2] at h
  omega
section
variable {H : Type}
/-- A slice of integers among what came in. -/
theorem open_ints2 {enc : TypeId × Value → H} {W : World} {fuel : Nat} {v : Value} {x : DataW H × List MemPlace} (h : DataW.trod enc Try.prog W 0 (fun _ => true) true fuel 22 [v] = some x) (hw : ∀ k ∈ x.1.weights Try.prog 22, k ≤ reachN) :
    ∃ A n c zs, v = .slice A n c ∧ Ints W A zs ∧ zs.length = c ∧ n ≤ c ∧ (A = none → c = 0) ∧ c * 8 ≤ reachN ∧ ∀ v ∈ zs, InI v := by
  rcases Go.Deep.open_slice1 Try.underlying22 cellsInt h with ⟨hcs, _⟩ | ⟨a, len, cap, m, k, V, D, Pl, hcs, _, hl, hmax, hm, hx, hi⟩
  · simp at hcs
    subst hcs
    exact ⟨_, _, _, [], rfl, .inl rfl, rfl, Nat.le_refl _, fun _ => rfl, by simp, fun v hv => by cases hv⟩
  · simp at hcs
    subst hcs
    simp only [if_true] at hm
    subst hm
    have hreach : m * 8 ≤ reachN := by
      refine hw _ ?_
      rw [hx]
      simp only [DataW.weights, Try.underlying22, List.length_map, List.length_range, bytesInt]
      rw [show len + (m - len) = m from by omega]
      exact List.mem_cons_self
    have each : ∀ i, i < m → ∃ x : Int, V i = .int .i64 x ∧ InI x := by
      intro i him
      obtain ⟨_, t0⟩ := hi i him
      obtain ⟨x, e0, -, e1⟩ := DataW.trod_int Try.underlying3 t0
      simp at e0
      exact ⟨x, e0, inI_wf e1⟩
    obtain ⟨f, hf'⟩ := Go.Deep.choose_lt each
    refine ⟨_, _, _, (List.range m).map f, rfl, ?_, by simp, hl, (fun h => by cases h), hreach, fun v hv => by
      obtain ⟨i, hi', rfl⟩ := List.mem_map.1 hv
      exact (hf' i (List.mem_range.1 hi')).2⟩
    rcases Nat.eq_zero_or_pos m with h0 | h0
    · subst h0
      exact .inl rfl
    · obtain ⟨c0, _⟩ := hi 0 h0
      obtain ⟨ab, ao, asp⟩ := a
      have hsp := World.cell?_spot c0
      have hspot : asp = none := by simpa [Addr.add] using hsp
      subst hspot
      refine .inr ⟨ab, ao, rfl, ?_, fun j v hj => ?_⟩
      · have := block_lt_of_cell c0
        simpa [Addr.add] using this
      · simp only [List.getElem?_map] at hj
        by_cases hjm : j < m
        · rw [List.getElem?_eq_getElem (by simpa using hjm)] at hj
          simp at hj
          obtain ⟨q0, _⟩ := hi j hjm
          rw [Go.Addr.add_mid, (hf' j hjm).1, hj] at q0
          exact q0
        · rw [List.getElem?_eq_none (by simpa using hjm)] at hj
          cases hj
/-- A list of integers that came in, each of which an int holds. -/
structure ArgJ (w : World) (A : Option Addr) (n c : Nat) (zs : List Int) : Prop where
  arg : ArgI w A n c zs
  inI : ∀ v ∈ zs, InI v
set_option maxRecDepth 100000 in
theorem open_argJ {enc : TypeId × Value → H} {W : World} {base : Nat} {v : Value} {d : DataW H} {p : List MemPlace} (hv : Value.okWide Try.prog W .any base 22 v)
    (h : DataW.Trod enc Try.prog W 0 (fun _ => true) true 22 v d p) (hr : ∀ k ∈ d.weights Try.prog 22, k ≤ reachN) : ∃ A n c zs, v = .slice A n c ∧ ArgJ W A n c zs := by
  obtain ⟨A, n, c, rfl⟩ := okWide_slice Try.underlying22 hv
  obtain ⟨fuel, hf⟩ := h
  obtain ⟨A', n', c', zs, e, h1, h2, h3, h4, h5, h6⟩ := open_ints2 (x := (d, p)) (v := .slice A n c) (by simpa [Value.cells] using hf) hr
  exact ⟨A', n', c', zs, e, ⟨h1, h2, h3, h4, h5⟩, h6⟩

end
end Go.Proofs.Ythjjpmcefiddmaa
