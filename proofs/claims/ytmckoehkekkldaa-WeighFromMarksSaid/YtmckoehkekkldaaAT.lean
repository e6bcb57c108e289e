/- Opens a table of integers that came in. -/
import Derived.Test.YtmckoehkekkldaaZ
namespace Go.Proofs.Ytmckoehkekkldaa
open Go.ChangeShapes Go.WideShapes Go.ChangeAt Go.RowKit Go.Joins

section
variable {H : Type}
set_option maxRecDepth 100000 in
theorem open_argT {enc : TypeId × Value → H} {W : World} {base : Nat} {v : Value} {d : DataW H} {p : List MemPlace} (hv : Value.okWide Try.prog W .any base 33 v)
    (h : DataW.Trod enc Try.prog W 0 (fun _ => true) true 33 v d p) (hr : ∀ k ∈ d.weights Try.prog 33, k ≤ reachN) : ∃ A n c Z, v = .slice A n c ∧ ArgT W A n c Z := by
  obtain ⟨A, n, c, rfl⟩ := okWide_slice Try.underlying33 hv
  obtain ⟨fuel, hf⟩ := h
  rcases Go.Deep.open_slice1 Try.underlying33 cellsInts hf with ⟨hcs, _⟩ | ⟨a, len, cap, m, k, V, D, Pl, hcs, _, hl, hmax, hm, hx, hi⟩
  · simp [Value.cells] at hcs
    obtain ⟨rfl, rfl, rfl⟩ := hcs
    exact ⟨_, _, _, [], rfl, .inl rfl, rfl, Nat.le_refl _, fun _ => rfl, by simp⟩
  · simp [Value.cells] at hcs
    obtain ⟨rfl, rfl, rfl⟩ := hcs
    simp only [if_true] at hm
    subst hm
    simp only [Prod.mk.injEq] at hx
    obtain ⟨hd, hp⟩ := hx
    have hreach : m * 24 ≤ reachN := by
      refine hr _ ?_
      rw [hd]
      simp only [DataW.weights, Try.underlying33, List.length_map, List.length_range, bytesInts]
      rw [show n + (m - n) = m from by omega]
      exact List.mem_cons_self
    have inAll : ∀ i, i < m → ∀ q ∈ (D i).weights Try.prog 28, q ≤ reachN := by
      intro i him q hq
      refine hr _ ?_
      rw [hd]
      simp only [DataW.weights, Try.underlying33]
      refine List.mem_cons_of_mem _ ?_
      by_cases hin : i < n
      · refine List.mem_append_left _ (weightsAll_mem hq _ ?_)
        exact List.mem_map.2 ⟨i, List.mem_range.2 hin, rfl⟩
      · refine List.mem_append_right _ (weightsAll_mem hq _ ?_)
        exact List.mem_map.2 ⟨i - n, List.mem_range.2 (by omega), by rw [show n + (i - n) = i from by omega]⟩
    have each : ∀ i, i < m → ∃ x : RowZ × (Option Addr × Nat), V i = .slice x.2.1 x.1.2 x.2.2 ∧
        Ints W x.2.1 x.1.1 ∧ x.1.1.length = x.2.2 ∧ x.1.2 ≤ x.2.2 ∧ (x.2.1 = none → x.2.2 = 0) ∧ x.2.2 * 8 ≤ reachN := by
      intro i him
      obtain ⟨_, t0⟩ := hi i him
      obtain ⟨A1, n1, c1, xs, e0, h1⟩ := open_ints1 (x := (D i, Pl i)) t0 (inAll i him)
      exact ⟨((xs, n1), (A1, c1)), e0, h1⟩
    obtain ⟨f, hf'⟩ := Go.Deep.choose_lt each
    refine ⟨_, _, _, (List.range m).map fun i => (f i).1, rfl, ?_, by simp, hl, (fun h => by cases h), hreach⟩
    rcases Nat.eq_zero_or_pos m with h0 | h0
    · subst h0
      exact .inl rfl
    · obtain ⟨c0, _⟩ := hi 0 h0
      obtain ⟨ab, ao, asp⟩ := a
      have hsp := World.cell?_spot c0
      have hspot : asp = none := by simpa [Addr.add] using hsp
      subst hspot
      refine .inr ⟨ab, ao, rfl, ?_, fun j zs q hj => ?_⟩
      · have := block_lt_of_cell c0
        simpa [Addr.add] using this
      · simp only [List.getElem?_map] at hj
        by_cases hjm : j < m
        · rw [List.getElem?_eq_getElem (by simpa using hjm)] at hj
          simp at hj
          obtain ⟨q0, _⟩ := hi j hjm
          obtain ⟨r0, r1⟩ := hf' j hjm
          rw [Go.Addr.add_mid, r0, hj] at q0
          rw [hj] at r1
          exact ⟨_, _, q0, r1⟩
        · rw [List.getElem?_eq_none (by simpa using hjm)] at hj
          cases hj
end
end Go.Proofs.Ytmckoehkekkldaa
