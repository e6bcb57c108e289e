/- The laws' arguments, opened: records and lists of integers. -/
import Derived.Test.YtmklpldmgmjlkaaKH
import Derived.Deep.SlicePairs
namespace Go.Proofs.Ytmklpldmgmjlkaa
open Go.ChangeShapes Go.WideShapes Go.ChangeAt Go.RowKit Go.Joins

theorem cellsAnswer : Try.prog.cellsOf 30 = 2 := by kernel_rfl
theorem cellsInts : Try.prog.cellsOf 23 = 1 := by kernel_rfl
theorem cellsBool : Try.prog.cellsOf 4 = 1 := by kernel_rfl
theorem cellsInt : Try.prog.cellsOf 3 = 1 := by kernel_rfl
theorem bytesAnswer : Try.prog.bytesOf 30 = 32 := by kernel_rfl
theorem bytesInt : Try.prog.bytesOf 3 = 8 := by kernel_rfl
theorem reach_eq : reachBytes = reachN := rfl
section
variable {H : Type}
theorem weightsAll_mem {P : Program} {e : TypeId} {d : DataW H} {k : Nat} (hk : k ∈ d.weights P e) : ∀ l : List (DataW H), d ∈ l → k ∈ DataW.weightsAll P e l
  | [], h => by cases h
  | x :: r, h => by
    rw [DataW.weightsAll, List.mem_append]
    rcases List.mem_cons.1 h with rfl | h
    · exact .inl hk
    · exact .inr (weightsAll_mem hk r h)
/-- A slice of integers among what came in. -/
theorem open_ints1 {enc : TypeId × Value → H} {W : World} {fuel : Nat} {v : Value} {x : DataW H × List MemPlace} (h : DataW.trod enc Try.prog W 0 (fun _ => true) true fuel 23 [v] = some x) (hw : ∀ k ∈ x.1.weights Try.prog 23, k ≤ reachN) :
    ∃ A n c zs, v = .slice A n c ∧ Ints W A zs ∧ zs.length = c ∧ n ≤ c ∧ (A = none → c = 0) ∧ c * 8 ≤ reachN := by
  rcases Go.Deep.open_slice1 Try.underlying23 cellsInt h with ⟨hcs, _⟩ | ⟨a, len, cap, m, k, V, D, Pl, hcs, _, hl, hmax, hm, hx, hi⟩
  · simp at hcs
    subst hcs
    exact ⟨_, _, _, [], rfl, .inl rfl, rfl, Nat.le_refl _, fun _ => rfl, by simp⟩
  · simp at hcs
    subst hcs
    simp only [if_true] at hm
    subst hm
    have hreach : m * 8 ≤ reachN := by
      refine hw _ ?_
      rw [hx]
      simp only [DataW.weights, Try.underlying23, List.length_map, List.length_range, bytesInt]
      rw [show len + (m - len) = m from by omega]
      exact List.mem_cons_self
    have each : ∀ i, i < m → ∃ x : Int, V i = .int .i64 x := by
      intro i him
      obtain ⟨_, t0⟩ := hi i him
      obtain ⟨x, e0, -, -⟩ := DataW.trod_int Try.underlying3 t0
      simp at e0
      exact ⟨x, e0⟩
    obtain ⟨f, hf'⟩ := Go.Deep.choose_lt each
    refine ⟨_, _, _, (List.range m).map f, rfl, ?_, by simp, hl, (fun h => by cases h), hreach⟩
    rcases Nat.eq_zero_or_pos m with h0 | h0
    · subst h0
      exact .inl rfl
    · obtain ⟨c0, _⟩ := hi 0 h0
      obtain ⟨ab, ao, asp⟩ := a
      have hsp := World.cell?_spot c0
      have hspot : asp = none := by simpa [Addr.add] using hsp
      subst hspot
      refine .inr ⟨ab, ao, rfl, ?_, fun j v hj => ?_⟩
      · have := block_lt_of_cell c0
        simpa [Addr.add] using this
      · simp only [List.getElem?_map] at hj
        by_cases hjm : j < m
        · rw [List.getElem?_eq_getElem (by simpa using hjm)] at hj
          simp at hj
          obtain ⟨q0, _⟩ := hi j hjm
          rw [Go.Addr.add_mid, hf' j hjm, hj] at q0
          exact q0
        · rw [List.getElem?_eq_none (by simpa using hjm)] at hj
          cases hj
/-- A record's answers that came in: the first n of c cells are its elements. -/
structure ArgA (w : World) (A : Option Addr) (n c : Nat) (Z : List AnZ) : Prop where
  ans : AnsZ w A Z
  len : Z.length = c
  le : n ≤ c
  nil : A = none → c = 0
  reach : c * 32 ≤ reachN
theorem ArgA.els {w : World} {A : Option Addr} {n c : Nat} {Z : List AnZ} (h : ArgA w A n c Z) : Ans w A ((Z.take n).map vis) ∧ ((Z.take n).map vis).length = n ∧ n ≤ maxLen := by
  have h1 := h.len
  have h2 := h.le
  have h3 := h.reach
  exact ⟨h.ans.ans n, by rw [List.length_map, List.length_take]; omega, Nat.le_trans h2 (reachN_le h3 (by omega)).2⟩
/-- A list of integers that came in. -/
structure ArgI (w : World) (A : Option Addr) (n c : Nat) (zs : List Int) : Prop where
  ints : Ints w A zs
  len : zs.length = c
  le : n ≤ c
  nil : A = none → c = 0
  reach : c * 8 ≤ reachN
theorem ArgI.els {w : World} {A : Option Addr} {n c : Nat} {zs : List Int} (h : ArgI w A n c zs) : Ints w A (zs.take n) ∧ (zs.take n).length = n ∧ n ≤ maxLen := by
  have h1 := h.len
  have h2 := h.le
  have h3 := h.reach
  exact ⟨h.ints.take n, by rw [List.length_take]; omega, Nat.le_trans h2 (reachN_le h3 (by omega)).2⟩
set_option maxRecDepth 100000 in
theorem open_argI {enc : TypeId × Value → H} {W : World} {base : Nat} {v : Value} {d : DataW H} {p : List MemPlace} (hv : Value.okWide Try.prog W .any base 23 v)
    (h : DataW.Trod enc Try.prog W 0 (fun _ => true) true 23 v d p) (hr : ∀ k ∈ d.weights Try.prog 23, k ≤ reachN) : ∃ A n c zs, v = .slice A n c ∧ ArgI W A n c zs := by
  obtain ⟨A, n, c, rfl⟩ := okWide_slice Try.underlying23 hv
  obtain ⟨fuel, hf⟩ := h
  obtain ⟨A', n', c', zs, e, h1, h2, h3, h4, h5⟩ := open_ints1 (x := (d, p)) (v := .slice A n c) (by simpa [Value.cells] using hf) hr
  exact ⟨A', n', c', zs, e, h1, h2, h3, h4, h5⟩

set_option maxRecDepth 100000 in
theorem open_argA {enc : TypeId × Value → H} {W : World} {base : Nat} {v : Value} {d : DataW H} {p : List MemPlace} (hv : Value.okWide Try.prog W .any base 22 v)
    (h : DataW.Trod enc Try.prog W 0 (fun _ => true) true 22 v d p) (hr : ∀ k ∈ d.weights Try.prog 22, k ≤ reachN) : ∃ A n c Z, v = .slice A n c ∧ ArgA W A n c Z := by
  obtain ⟨A, n, c, rfl⟩ := okWide_slice Try.underlying22 hv
  obtain ⟨fuel, hf⟩ := h
  rcases Go.Deep.open_slice_pairs Try.underlying22 Try.underlying30 cellsAnswer rfl rfl cellsInts cellsBool hf with ⟨hcs, _⟩ | ⟨a, len, cap, m, k, V0, V1, D0, D1, P0, P1, hcs, _, hl, hmax, hm, hx, hi⟩
  · simp [Value.cells] at hcs
    obtain ⟨rfl, rfl, rfl⟩ := hcs
    exact ⟨_, _, _, [], rfl, .inl rfl, rfl, Nat.le_refl _, fun _ => rfl, by simp⟩
  · simp [Value.cells] at hcs
    obtain ⟨rfl, rfl, rfl⟩ := hcs
    simp only [if_true] at hm
    subst hm
    simp only [Prod.mk.injEq] at hx
    obtain ⟨hd, hp⟩ := hx
    have hreach : m * 32 ≤ reachN := by
      refine hr _ ?_
      rw [hd]
      simp only [DataW.weights, Try.underlying22, List.length_map, List.length_range, bytesAnswer]
      rw [show n + (m - n) = m from by omega]
      exact List.mem_cons_self
    have hwt : ∀ i, i < m → ∀ q ∈ (D0 i).weights Try.prog 23, q ≤ reachN := by
      intro i him q hq
      refine hr _ ?_
      rw [hd]
      simp only [DataW.weights, Try.underlying22]
      refine List.mem_cons_of_mem _ ?_
      have hq' : q ∈ (DataW.agg [D0 i, D1 i]).weights Try.prog 30 := by
        simp only [DataW.weights, Try.underlying30]
        rw [show (#[_, _] : Array Field).toList.map (·.type) = [23, 4] from rfl, DataW.weightsEach, List.mem_append]
        exact .inl hq
      by_cases hin : i < n
      · refine List.mem_append_left _ (weightsAll_mem hq' _ ?_)
        exact List.mem_map.2 ⟨i, List.mem_range.2 hin, rfl⟩
      · refine List.mem_append_right _ (weightsAll_mem hq' _ ?_)
        exact List.mem_map.2 ⟨i - n, List.mem_range.2 (by omega), by rw [show n + (i - n) = i from by omega]⟩
    have each : ∀ i, i < m → ∃ x : AnZ × Option Addr × Nat, V0 i = .slice x.2.1 x.1.2.1 x.2.2 ∧ V1 i = .bool x.1.2.2 ∧ Ints W x.2.1 x.1.1 ∧ x.1.1.length = x.2.2 ∧ x.1.2.1 ≤ x.2.2 ∧ (x.2.1 = none → x.2.2 = 0) ∧ x.2.2 * 8 ≤ reachN := by
      intro i him
      obtain ⟨_, _, t0, t1⟩ := hi i him
      obtain ⟨A', n', c', zs, e0, h1, h2, h3, h4, h5⟩ := open_ints1 (x := (D0 i, P0 i)) t0 (hwt i him)
      obtain ⟨y, e1, -⟩ := DataW.trod_bool Try.underlying4 t1
      simp at e1
      exact ⟨((zs, n', y), A', c'), e0, e1, h1, h2, h3, h4, h5⟩
    obtain ⟨f, hf'⟩ := Go.Deep.choose_lt each
    refine ⟨_, _, _, (List.range m).map fun i => (f i).1, rfl, ?_, by simp, hl, (fun h => by cases h), hreach⟩
    rcases Nat.eq_zero_or_pos m with h0 | h0
    · subst h0
      exact .inl rfl
    · obtain ⟨c0, _, _, _⟩ := hi 0 h0
      obtain ⟨ab, ao, asp⟩ := a
      have hsp := World.cell?_spot c0
      have hspot : asp = none := by simpa [Addr.add] using hsp
      subst hspot
      refine .inr ⟨ab, ao, rfl, ?_, fun j zs mm y hj => ?_⟩
      · have := block_lt_of_cell c0
        simpa [Addr.add] using this
      · simp only [List.getElem?_map] at hj
        by_cases hjm : j < m
        · rw [List.getElem?_eq_getElem (by simpa using hjm)] at hj
          simp at hj
          obtain ⟨q0, q1, _, _⟩ := hi j hjm
          obtain ⟨r0, r1, r2, r3, r4, r5, r6⟩ := hf' j hjm
          rw [Go.Addr.add_mid] at q0 q1
          rw [r0] at q0
          rw [r1] at q1
          rw [hj] at q0 q1 r2 r3 r4
          exact ⟨_, _, q0, q1, r2, r3, r4, r5, r6⟩
        · rw [List.getElem?_eq_none (by simpa using hjm)] at hj
          cases hj
end
end Go.Proofs.Ytmklpldmgmjlkaa

