/- The laws' arguments, opened: strikes, stocks, and lists of integers. -/
import Derived.Test.YtfjegdejfccgaaaZO
import Derived.ProofKit
import Derived.OpenShut
import Derived.Lib.SmallJoins
import Derived.ChangeOld
import Derived.SizedLaws
import Derived.Deep.SlicePairs
namespace Go.Proofs.Ytfjegdejfccgaaa
open Go.ChangeShapes Go.WideShapes Go.ChangeAt Go.RowKit Go.Joins

theorem own : ownKnob Try.prog.godebug = none := by kernel_rfl
theorem cellsInt : Try.prog.cellsOf 3 = 1 := by kernel_rfl
theorem cellsInts : Try.prog.cellsOf 28 = 1 := by kernel_rfl
theorem cellsStrike : Try.prog.cellsOf 24 = 2 := by kernel_rfl
theorem cellsStock : Try.prog.cellsOf 34 = 3 := by kernel_rfl
theorem bytesInt : Try.prog.bytesOf 3 = 8 := by kernel_rfl
theorem bytesInts : Try.prog.bytesOf 28 = 24 := by kernel_rfl
theorem reach_eq : reachBytes = reachN := rfl
theorem laidOut : laidOutB Try.prog = true := by kernel_rfl
section
variable {H : Type}
theorem weightsAll_mem {P : Program} {e : TypeId} {d : DataW H} {k : Nat} (hk : k ∈ d.weights P e) : ∀ l : List (DataW H), d ∈ l → k ∈ DataW.weightsAll P e l
  | [], h => by cases h
  | x :: r, h => by
    rw [DataW.weightsAll, List.mem_append]
    rcases List.mem_cons.1 h with rfl | h
    · exact .inl hk
    · exact .inr (weightsAll_mem hk r h)
/-- A slice of integers among what came in. -/
theorem open_ints1 {enc : TypeId × Value → H} {W : World} {fuel : Nat} {v : Value} {x : DataW H × List MemPlace} (h : DataW.trod enc Try.prog W 0 (fun _ => true) true fuel 28 [v] = some x) (hw : ∀ k ∈ x.1.weights Try.prog 28, k ≤ reachN) :
    ∃ A n c zs, v = .slice A n c ∧ Ints W A zs ∧ zs.length = c ∧ n ≤ c ∧ (A = none → c = 0) ∧ c * 8 ≤ reachN := by
  rcases Go.Deep.open_slice1 Try.underlying28 cellsInt h with ⟨hcs, _⟩ | ⟨a, len, cap, m, k, V, D, Pl, hcs, _, hl, hmax, hm, hx, hi⟩
  · simp at hcs
    subst hcs
    exact ⟨_, _, _, [], rfl, .inl rfl, rfl, Nat.le_refl _, fun _ => rfl, by simp⟩
  · simp at hcs
    subst hcs
    simp only [if_true] at hm
    subst hm
    have hreach : m * 8 ≤ reachN := by
      refine hw _ ?_
      rw [hx]
      simp only [DataW.weights, Try.underlying28, List.length_map, List.length_range, bytesInt]
      rw [show len + (m - len) = m from by omega]
      exact List.mem_cons_self
    have each : ∀ i, i < m → ∃ x : Int, V i = .int .i64 x := by
      intro i him
      obtain ⟨_, t0⟩ := hi i him
      obtain ⟨x, e0, -, -⟩ := DataW.trod_int Try.underlying3 t0
      simp at e0
      exact ⟨x, e0⟩
    obtain ⟨f, hf'⟩ := Go.Deep.choose_lt each
    refine ⟨_, _, _, (List.range m).map f, rfl, ?_, by simp, hl, (fun h => by cases h), hreach⟩
    rcases Nat.eq_zero_or_pos m with h0 | h0
    · subst h0
      exact .inl rfl
    · obtain ⟨c0, _⟩ := hi 0 h0
      obtain ⟨ab, ao, asp⟩ := a
      have hsp := World.cell?_spot c0
      have hspot : asp = none := by simpa [Addr.add] using hsp
      subst hspot
      refine .inr ⟨ab, ao, rfl, ?_, fun j v hj => ?_⟩
      · have := block_lt_of_cell c0
        simpa [Addr.add] using this
      · simp only [List.getElem?_map] at hj
        by_cases hjm : j < m
        · rw [List.getElem?_eq_getElem (by simpa using hjm)] at hj
          simp at hj
          obtain ⟨q0, _⟩ := hi j hjm
          rw [Go.Addr.add_mid, hf' j hjm, hj] at q0
          exact q0
        · rw [List.getElem?_eq_none (by simpa using hjm)] at hj
          cases hj
/-- A list of integers that came in. -/
structure ArgI (w : World) (A : Option Addr) (n c : Nat) (zs : List Int) : Prop where
  ints : Ints w A zs
  len : zs.length = c
  le : n ≤ c
  nil : A = none → c = 0
  reach : c * 8 ≤ reachN
theorem ArgI.els {w : World} {A : Option Addr} {n c : Nat} {zs : List Int} (h : ArgI w A n c zs) : Ints w A (zs.take n) ∧ (zs.take n).length = n ∧ n ≤ maxLen := by
  have h1 := h.len
  have h2 := h.le
  have h3 := h.reach
  exact ⟨h.ints.take n, by rw [List.length_take]; omega, Nat.le_trans h2 (reachN_le h3 (by omega)).2⟩
set_option maxRecDepth 100000 in
theorem open_argI {enc : TypeId × Value → H} {W : World} {base : Nat} {v : Value} {d : DataW H} {p : List MemPlace} (hv : Value.okWide Try.prog W .any base 28 v)
    (h : DataW.Trod enc Try.prog W 0 (fun _ => true) true 28 v d p) (hr : ∀ k ∈ d.weights Try.prog 28, k ≤ reachN) : ∃ A n c zs, v = .slice A n c ∧ ArgI W A n c zs := by
  obtain ⟨A, n, c, rfl⟩ := okWide_slice Try.underlying28 hv
  obtain ⟨fuel, hf⟩ := h
  obtain ⟨A', n', c', zs, e, h1, h2, h3, h4, h5⟩ := open_ints1 (x := (d, p)) (v := .slice A n c) (by simpa [Value.cells] using hf) hr
  exact ⟨A', n', c', zs, e, h1, h2, h3, h4, h5⟩
set_option maxRecDepth 100000 in
/-- A table among what came in. -/
theorem open_tab {enc : TypeId × Value → H} {W : World} {fuel : Nat} {v : Value} {x : DataW H × List MemPlace} (hf : DataW.trod enc Try.prog W 0 (fun _ => true) true fuel 22 [v] = some x) (hr : ∀ k ∈ x.1.weights Try.prog 22, k ≤ reachN) :
    ∃ A n c Z, v = .slice A n c ∧ ArgT W A n c Z := by
  rcases Go.Deep.open_slice1 Try.underlying22 cellsInts hf with ⟨hcs, _⟩ | ⟨a, len, cap, m, k, V, D, Pl, hcs, _, hl, hmax, hm, hx, hi⟩
  · simp at hcs
    subst hcs
    exact ⟨_, _, _, [], rfl, .inl rfl, rfl, Nat.le_refl _, fun _ => rfl, by simp⟩
  · simp at hcs
    subst hcs
    simp only [if_true] at hm
    subst hm
    have hreach : m * 24 ≤ reachN := by
      refine hr _ ?_
      rw [hx]
      simp only [DataW.weights, Try.underlying22, List.length_map, List.length_range, bytesInts]
      rw [show len + (m - len) = m from by omega]
      exact List.mem_cons_self
    have hwt : ∀ i, i < m → ∀ q ∈ (D i).weights Try.prog 28, q ≤ reachN := by
      intro i him q hq
      refine hr _ ?_
      rw [hx]
      simp only [DataW.weights, Try.underlying22]
      refine List.mem_cons_of_mem _ ?_
      by_cases hin : i < len
      · refine List.mem_append_left _ (weightsAll_mem hq _ ?_)
        exact List.mem_map.2 ⟨i, List.mem_range.2 hin, rfl⟩
      · refine List.mem_append_right _ (weightsAll_mem hq _ ?_)
        exact List.mem_map.2 ⟨i - len, List.mem_range.2 (by omega), by rw [show len + (i - len) = i from by omega]⟩
    have each : ∀ i, i < m → ∃ x : RowZ × Option Addr × Nat, V i = .slice x.2.1 x.1.2 x.2.2 ∧ Ints W x.2.1 x.1.1 ∧ x.1.1.length = x.2.2 ∧ x.1.2 ≤ x.2.2 ∧ (x.2.1 = none → x.2.2 = 0) ∧ x.2.2 * 8 ≤ reachN := by
      intro i him
      obtain ⟨_, t0⟩ := hi i him
      obtain ⟨A', n', c', zs, e0, h1, h2, h3, h4, h5⟩ := open_ints1 (x := (D i, Pl i)) t0 (hwt i him)
      exact ⟨((zs, n'), A', c'), e0, h1, h2, h3, h4, h5⟩
    obtain ⟨f, hf'⟩ := Go.Deep.choose_lt each
    refine ⟨_, _, _, (List.range m).map fun i => (f i).1, rfl, ?_, by simp, hl, (fun h => by cases h), hreach⟩
    rcases Nat.eq_zero_or_pos m with h0 | h0
    · subst h0
      exact .inl rfl
    · obtain ⟨c0, _⟩ := hi 0 h0
      obtain ⟨ab, ao, asp⟩ := a
      have hsp := World.cell?_spot c0
      have hspot : asp = none := by simpa [Addr.add] using hsp
      subst hspot
      refine .inr ⟨ab, ao, rfl, ?_, fun j zs mm hj => ?_⟩
      · have := block_lt_of_cell c0
        simpa [Addr.add] using this
      · simp only [List.getElem?_map] at hj
        by_cases hjm : j < m
        · rw [List.getElem?_eq_getElem (by simpa using hjm)] at hj
          simp at hj
          obtain ⟨q0, _⟩ := hi j hjm
          obtain ⟨r0, r2, r3, r4, r5, r6⟩ := hf' j hjm
          rw [Go.Addr.add_mid] at q0
          rw [r0] at q0
          rw [hj] at q0 r2 r3 r4
          exact ⟨_, _, q0, r2, r3, r4, r5, r6⟩
        · rw [List.getElem?_eq_none (by simpa using hjm)] at hj
          cases hj
set_option maxRecDepth 100000 in
/-- A strike that came in. -/
theorem open_strike {enc : TypeId × Value → H} {W : World} {r : Reach} {b0 : Nat} {v : Value} {d : DataW H} {p : List MemPlace} (hv : Value.okWide Try.prog W r b0 24 v)
    (h : DataW.Trod enc Try.prog W 0 (fun _ => true) true 24 v d p) (hr : ∀ k ∈ d.weights Try.prog 24, k ≤ reachN) :
    ∃ A n c Zx B m e Zy, v = .agg #[.slice A n c, .slice B m e] ∧ ArgT W A n c Zx ∧ ArgT W B m e Zy := by
  obtain ⟨c0, c1, y0, y1, m, rfl, hd, -, hy0, hy1⟩ := open_agg2 Try.underlying24 (by kernel_rfl) cellsStrike hv h
  have hw0 : ∀ k ∈ y0.1.weights Try.prog 22, k ≤ reachN := by
    intro k hk
    refine hr k ?_
    rw [hd]
    simp only [DataW.weights, Try.underlying24]
    rw [show (#[_, _] : Array Field).toList.map (·.type) = [22, 22] from rfl, DataW.weightsEach, List.mem_append]
    exact .inl hk
  have hw1 : ∀ k ∈ y1.1.weights Try.prog 22, k ≤ reachN := by
    intro k hk
    refine hr k ?_
    rw [hd]
    simp only [DataW.weights, Try.underlying24]
    rw [show (#[_, _] : Array Field).toList.map (·.type) = [22, 22] from rfl, DataW.weightsEach, List.mem_append]
    right
    rw [DataW.weightsEach, List.mem_append]
    exact .inl hk
  obtain ⟨A, n, c, Zx, rfl, ha⟩ := open_tab hy0 hw0
  obtain ⟨B, m', e, Zy, rfl, hb⟩ := open_tab hy1 hw1
  exact ⟨A, n, c, Zx, B, m', e, Zy, rfl, ha, hb⟩
set_option maxRecDepth 100000 in
/-- A stock that came in. -/
theorem open_stock {enc : TypeId × Value → H} {W : World} {r : Reach} {b0 : Nat} {v : Value} {d : DataW H} {p : List MemPlace} (hv : Value.okWide Try.prog W r b0 34 v)
    (h : DataW.Trod enc Try.prog W 0 (fun _ => true) true 34 v d p) (hr : ∀ k ∈ d.weights Try.prog 34, k ≤ reachN) :
    ∃ A n c zs B m e ys x, v = .agg #[.slice A n c, .slice B m e, .int .i64 x] ∧ ArgI W A n c zs ∧ ArgI W B m e ys := by
  obtain ⟨c0, c1, c2, y0, y1, y2, m, rfl, hd, -, hy0, hy1, hy2⟩ := open_agg3 Try.underlying34 (by kernel_rfl) cellsStock hv h
  have hw0 : ∀ k ∈ y0.1.weights Try.prog 28, k ≤ reachN := by
    intro k hk
    refine hr k ?_
    rw [hd]
    simp only [DataW.weights, Try.underlying34]
    rw [show (#[_, _, _] : Array Field).toList.map (·.type) = [28, 28, 3] from rfl, DataW.weightsEach, List.mem_append]
    exact .inl hk
  have hw1 : ∀ k ∈ y1.1.weights Try.prog 28, k ≤ reachN := by
    intro k hk
    refine hr k ?_
    rw [hd]
    simp only [DataW.weights, Try.underlying34]
    rw [show (#[_, _, _] : Array Field).toList.map (·.type) = [28, 28, 3] from rfl, DataW.weightsEach, List.mem_append]
    right
    rw [DataW.weightsEach, List.mem_append]
    exact .inl hk
  obtain ⟨A, n, c, zs, rfl, ha⟩ := open_ints1 hy0 hw0
  obtain ⟨B, m', e, ys, rfl, hb⟩ := open_ints1 hy1 hw1
  obtain ⟨x, e2, -, -⟩ := DataW.trod_int Try.underlying3 hy2
  simp at e2
  subst e2
  exact ⟨A, n, c, zs, B, m', e, ys, x, rfl, ⟨ha.1, ha.2.1, ha.2.2.1, ha.2.2.2.1, ha.2.2.2.2⟩, ⟨hb.1, hb.2.1, hb.2.2.1, hb.2.2.2.1, hb.2.2.2.2⟩⟩
end
end Go.Proofs.Ytfjegdejfccgaaa
