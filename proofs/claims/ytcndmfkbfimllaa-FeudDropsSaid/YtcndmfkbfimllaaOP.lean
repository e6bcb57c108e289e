/- The laws' arguments, opened: shops, and lists of integers. -/
import Derived.Test.YtcndmfkbfimllaaZ
import Derived.ProofKit
import Derived.OpenShut
import Derived.Lib.SmallJoins
import Derived.ChangeOld
import Derived.SizedLaws
import Derived.Deep.SlicePairs
namespace Go.Proofs.Ytcndmfkbfimllaa
open Go.ChangeShapes Go.WideShapes Go.ChangeAt Go.RowKit Go.Joins

theorem own : ownKnob Try.prog.godebug = none := by kernel_rfl
theorem cellsShop : Try.prog.cellsOf 24 = 2 := by kernel_rfl
theorem cellsFeud : Try.prog.cellsOf 45 = 2 := by kernel_rfl
theorem cellsInt : Try.prog.cellsOf 3 = 1 := by kernel_rfl
theorem bytesFeud : Try.prog.bytesOf 45 = 16 := by kernel_rfl
theorem bytesInt : Try.prog.bytesOf 3 = 8 := by kernel_rfl
theorem reach_eq : reachBytes = reachN := rfl
section
variable {H : Type}
theorem weightsAll_mem {P : Program} {e : TypeId} {d : DataW H} {k : Nat} (hk : k ∈ d.weights P e) : ∀ l : List (DataW H), d ∈ l → k ∈ DataW.weightsAll P e l
  | [], h => by cases h
  | x :: r, h => by
    rw [DataW.weightsAll, List.mem_append]
    rcases List.mem_cons.1 h with rfl | h
    · exact .inl hk
    · exact .inr (weightsAll_mem hk r h)
/-- A slice of integers among what came in. -/
theorem open_ints1 {enc : TypeId × Value → H} {W : World} {fuel : Nat} {v : Value} {x : DataW H × List MemPlace} (h : DataW.trod enc Try.prog W 0 (fun _ => true) true fuel 25 [v] = some x) (hw : ∀ k ∈ x.1.weights Try.prog 25, k ≤ reachN) :
    ∃ A n c zs, v = .slice A n c ∧ Ints W A zs ∧ zs.length = c ∧ n ≤ c ∧ (A = none → c = 0) ∧ c * 8 ≤ reachN := by
  rcases Go.Deep.open_slice1 Try.underlying25 cellsInt h with ⟨hcs, _⟩ | ⟨a, len, cap, m, k, V, D, Pl, hcs, _, hl, hmax, hm, hx, hi⟩
  · simp at hcs
    subst hcs
    exact ⟨_, _, _, [], rfl, .inl rfl, rfl, Nat.le_refl _, fun _ => rfl, by simp⟩
  · simp at hcs
    subst hcs
    simp only [if_true] at hm
    subst hm
    have hreach : m * 8 ≤ reachN := by
      refine hw _ ?_
      rw [hx]
      simp only [DataW.weights, Try.underlying25, List.length_map, List.length_range, bytesInt]
      rw [show len + (m - len) = m from by omega]
      exact List.mem_cons_self
    have each : ∀ i, i < m → ∃ x : Int, V i = .int .i64 x := by
      intro i him
      obtain ⟨_, t0⟩ := hi i him
      obtain ⟨x, e0, -, -⟩ := DataW.trod_int Try.underlying3 t0
      simp at e0
      exact ⟨x, e0⟩
    obtain ⟨f, hf'⟩ := Go.Deep.choose_lt each
    refine ⟨_, _, _, (List.range m).map f, rfl, ?_, by simp, hl, (fun h => by cases h), hreach⟩
    rcases Nat.eq_zero_or_pos m with h0 | h0
    · subst h0
      exact .inl rfl
    · obtain ⟨c0, _⟩ := hi 0 h0
      obtain ⟨ab, ao, asp⟩ := a
      have hsp := World.cell?_spot c0
      have hspot : asp = none := by simpa [Addr.add] using hsp
      subst hspot
      refine .inr ⟨ab, ao, rfl, ?_, fun j v hj => ?_⟩
      · have := block_lt_of_cell c0
        simpa [Addr.add] using this
      · simp only [List.getElem?_map] at hj
        by_cases hjm : j < m
        · rw [List.getElem?_eq_getElem (by simpa using hjm)] at hj
          simp at hj
          obtain ⟨q0, _⟩ := hi j hjm
          rw [Go.Addr.add_mid, hf' j hjm, hj] at q0
          exact q0
        · rw [List.getElem?_eq_none (by simpa using hjm)] at hj
          cases hj
/-- A list of integers that came in. -/
structure ArgI (w : World) (A : Option Addr) (n c : Nat) (zs : List Int) : Prop where
  ints : Ints w A zs
  len : zs.length = c
  le : n ≤ c
  nil : A = none → c = 0
  reach : c * 8 ≤ reachN
theorem ArgI.els {w : World} {A : Option Addr} {n c : Nat} {zs : List Int} (h : ArgI w A n c zs) : Ints w A (zs.take n) ∧ (zs.take n).length = n ∧ n ≤ maxLen := by
  have h1 := h.len
  have h2 := h.le
  have h3 := h.reach
  exact ⟨h.ints.take n, by rw [List.length_take]; omega, Nat.le_trans h2 (reachN_le h3 (by omega)).2⟩
set_option maxRecDepth 100000 in
theorem open_argI {enc : TypeId × Value → H} {W : World} {base : Nat} {v : Value} {d : DataW H} {p : List MemPlace} (hv : Value.okWide Try.prog W .any base 25 v)
    (h : DataW.Trod enc Try.prog W 0 (fun _ => true) true 25 v d p) (hr : ∀ k ∈ d.weights Try.prog 25, k ≤ reachN) : ∃ A n c zs, v = .slice A n c ∧ ArgI W A n c zs := by
  obtain ⟨A, n, c, rfl⟩ := okWide_slice Try.underlying25 hv
  obtain ⟨fuel, hf⟩ := h
  obtain ⟨A', n', c', zs, e, h1, h2, h3, h4, h5⟩ := open_ints1 (x := (d, p)) (v := .slice A n c) (by simpa [Value.cells] using hf) hr
  exact ⟨A', n', c', zs, e, h1, h2, h3, h4, h5⟩
set_option maxRecDepth 100000 in
/-- A slice of pairs among what came in. -/
theorem open_prs {enc : TypeId × Value → H} {W : World} {fuel : Nat} {v : Value} {x : DataW H × List MemPlace} (hf : DataW.trod enc Try.prog W 0 (fun _ => true) true fuel 22 [v] = some x) (hw : ∀ k ∈ x.1.weights Try.prog 22, k ≤ reachN) :
    ∃ A n c zs, v = .slice A n c ∧ Arg2 W A n c zs := by
  rcases Go.Deep.open_slice_pairs Try.underlying22 Try.underlying45 cellsFeud rfl rfl cellsInt cellsInt hf with ⟨hcs, _⟩ | ⟨a, len, cap, m, k, V0, V1, D0, D1, P0, P1, hcs, _, hl, hmax, hm, hx, hi⟩
  · simp at hcs
    subst hcs
    exact ⟨_, _, _, [], rfl, .inl rfl, rfl, Nat.le_refl _, fun _ => rfl, reach0 _⟩
  · simp at hcs
    subst hcs
    simp only [if_true] at hm
    subst hm
    have hreach : m * 16 ≤ reachN := by
      refine hw _ ?_
      rw [hx]
      simp only [DataW.weights, Try.underlying22, List.length_map, List.length_range, bytesFeud]
      rw [show len + (m - len) = m from by omega]
      exact List.mem_cons_self
    have each : ∀ i, i < m → ∃ x : Int × Int, V0 i = .int .i64 x.1 ∧ V1 i = .int .i64 x.2 := by
      intro i him
      obtain ⟨_, _, t0, t1⟩ := hi i him
      obtain ⟨x, e0, -, -⟩ := DataW.trod_int Try.underlying3 t0
      obtain ⟨y, e1, -, -⟩ := DataW.trod_int Try.underlying3 t1
      simp at e0 e1
      exact ⟨(x, y), e0, e1⟩
    obtain ⟨f, hf'⟩ := Go.Deep.choose_lt each
    refine ⟨_, _, _, (List.range m).map f, rfl, ?_, by simp, hl, (fun h => by cases h), hreach⟩
    rcases Nat.eq_zero_or_pos m with h0 | h0
    · subst h0
      exact .inl rfl
    · obtain ⟨c0, _, _, _⟩ := hi 0 h0
      obtain ⟨ab, ao, asp⟩ := a
      have hsp := World.cell?_spot c0
      have hspot : asp = none := by simpa [Addr.add] using hsp
      subst hspot
      refine .inr ⟨ab, ao, rfl, ?_, fun j s mm hj => ?_⟩
      · have := block_lt_of_cell c0
        simpa [Addr.add] using this
      · simp only [List.getElem?_map] at hj
        by_cases hjm : j < m
        · rw [List.getElem?_eq_getElem (by simpa using hjm)] at hj
          simp at hj
          obtain ⟨q0, q1, _, _⟩ := hi j hjm
          obtain ⟨r0, r1⟩ := hf' j hjm
          rw [Go.Addr.add_mid] at q0 q1
          rw [r0, hj] at q0
          rw [r1, hj] at q1
          exact ⟨q0, q1⟩
        · rw [List.getElem?_eq_none (by simpa using hjm)] at hj
          cases hj
set_option maxRecDepth 100000 in
/-- A shop that came in. -/
theorem open_shop {enc : TypeId × Value → H} {W : World} {r : Reach} {b0 : Nat} {v : Value} {d : DataW H} {p : List MemPlace} (hv : Value.okWide Try.prog W r b0 24 v)
    (h : DataW.Trod enc Try.prog W 0 (fun _ => true) true 24 v d p) (hr : ∀ k ∈ d.weights Try.prog 24, k ≤ reachN) :
    ∃ x A n c zs, v = .agg #[.int .i64 x, .slice A n c] ∧ Arg2 W A n c zs := by
  obtain ⟨c0, c1, y0, y1, m, rfl, hd, -, hy0, hy1⟩ := open_agg2 Try.underlying24 (by kernel_rfl) cellsShop hv h
  obtain ⟨a, e0, -, -⟩ := DataW.trod_int Try.underlying3 hy0
  simp at e0
  subst e0
  have hw : ∀ k ∈ y1.1.weights Try.prog 22, k ≤ reachN := by
    intro k hk
    refine hr k ?_
    rw [hd]
    simp only [DataW.weights, Try.underlying24]
    rw [show (#[_, _] : Array Field).toList.map (·.type) = [3, 22] from rfl, DataW.weightsEach, List.mem_append]
    right
    rw [DataW.weightsEach, List.mem_append]
    exact .inl hk
  obtain ⟨A, n, c, zs, rfl, ha⟩ := open_prs hy1 hw
  exact ⟨a, A, n, c, zs, rfl, ha⟩
end
end Go.Proofs.Ytcndmfkbfimllaa
