/- Two lots and moves by value, opened. -/
import Derived.Test.YtmbhhooiaonhjaaMB
namespace Go.Proofs.Ytmbhhooiaonhjaa
open Go.ChangeShapes Go.WideShapes Go.ChangeAt Go.RowKit Go.Joins

theorem reach_eq : reachBytes = reachN := rfl
theorem cellsLots : Try.prog.cellsOf 34 = 3 := by kernel_rfl
set_option maxRecDepth 100000 in
theorem open_grains1 {H : Type} {enc : TypeId × Value → H} {W : World} {fuel : Nat} {v : Value} {x : DataW H × List MemPlace} (h : DataW.trod enc Try.prog W 0 (fun _ => true) true fuel 22 [v] = some x) (hr : ∀ k ∈ x.1.weights Try.prog 22, k ≤ reachN) :
    ∃ A n c zs, v = .slice A n c ∧ Arg2 W A n c zs := by
  rcases Go.Deep.open_slice_pairs Try.underlying22 Try.underlying52 cellsGrain rfl rfl cellsInt cellsInt h with ⟨hcs, _⟩ | ⟨a, len, cap, m, k, V0, V1, D0, D1, P0, P1, hcs, _, hl, hmax, hm, hx, hi⟩
  · simp at hcs
    subst hcs
    exact ⟨_, _, _, [], rfl, .inl rfl, rfl, Nat.le_refl _, fun _ => rfl, by simp⟩
  · simp at hcs
    subst hcs
    simp only [if_true] at hm
    subst hm
    have hreach : (len + (m - len)) * 16 ≤ reachN := by
      refine hr _ ?_
      rw [hx]
      simp only [DataW.weights, Try.underlying22, List.length_map, List.length_range, bytesGrain]
      exact List.mem_cons_self
    have each : ∀ i, i < m → ∃ x : Int × Int, V0 i = .int .i64 x.1 ∧ V1 i = .int .i64 x.2 := by
      intro i him
      obtain ⟨_, _, t0, t1⟩ := hi i him
      obtain ⟨x, e0, -, -⟩ := DataW.trod_int Try.underlying3 t0
      obtain ⟨y, e1, -, -⟩ := DataW.trod_int Try.underlying3 t1
      simp at e0 e1
      exact ⟨(x, y), e0, e1⟩
    obtain ⟨f, hf'⟩ := Go.Deep.choose_lt each
    refine ⟨_, _, _, (List.range m).map f, rfl, ?_, by simp, hl, (fun h => by cases h), (by rw [show len + (m - len) = m from by omega] at hreach; exact hreach)⟩
    rcases Nat.eq_zero_or_pos m with h0 | h0
    · subst h0
      exact .inl rfl
    · obtain ⟨c0, _, _, _⟩ := hi 0 h0
      obtain ⟨ab, ao, asp⟩ := a
      have hsp := World.cell?_spot c0
      have hspot : asp = none := by simpa [Addr.add] using hsp
      subst hspot
      refine .inr ⟨ab, ao, rfl, ?_, fun j s mm hj => ?_⟩
      · have := block_lt_of_cell c0
        simpa [Addr.add] using this
      · simp only [List.getElem?_map] at hj
        by_cases hjm : j < m
        · rw [List.getElem?_eq_getElem (by simpa using hjm)] at hj
          simp at hj
          obtain ⟨q0, q1, _, _⟩ := hi j hjm
          obtain ⟨r0, r1⟩ := hf' j hjm
          rw [Go.Addr.add_mid] at q0 q1
          rw [r0, hj] at q0
          rw [r1, hj] at q1
          exact ⟨q0, q1⟩
        · rw [List.getElem?_eq_none (by simpa using hjm)] at hj
          cases hj
set_option maxRecDepth 100000 in
theorem open_moves1 {H : Type} {enc : TypeId × Value → H} {W : World} {fuel : Nat} {v : Value} {x : DataW H × List MemPlace} (h : DataW.trod enc Try.prog W 0 (fun _ => true) true fuel 32 [v] = some x) (hr : ∀ k ∈ x.1.weights Try.prog 32, k ≤ reachN) :
    ∃ A n c zs, v = .slice A n c ∧ Arg3 W A n c zs := by
  rcases Go.Deep.open_slice Try.underlying32 h with ⟨hcs, _⟩ | ⟨a, len, cap, m, k, D, Pl, hcs, _, hl, hmax, hm, hx, hi⟩
  · simp at hcs
    subst hcs
    exact ⟨_, _, _, [], rfl, .inl rfl, rfl, Nat.le_refl _, fun _ => rfl, by simp⟩
  · simp at hcs
    subst hcs
    simp only [if_true] at hm
    subst hm
    have hreach : (len + (m - len)) * 24 ≤ reachN := by
      refine hr _ ?_
      rw [hx]
      simp only [DataW.weights, Try.underlying32, List.length_map, List.length_range, bytesMove]
      exact List.mem_cons_self
    have each : ∀ i, i < m → ∃ x : Int × Int × Int, W.cell? (a.add (i * 3)) = some (.int .i64 x.1) ∧ W.cell? (a.add (i * 3 + 1)) = some (.int .i64 x.2.1) ∧ W.cell? (a.add (i * 3 + 2)) = some (.int .i64 x.2.2) := by
      intro i him
      obtain ⟨cs', h1, h2⟩ := hi i him
      rw [cellsMove] at h1
      obtain ⟨_, hlen, hcell⟩ := World.cells?_some h1
      obtain ⟨xs, k', hk, hxy, _, hxl, hff⟩ := DataW.trod_struct Try.underlying70 h2
      match xs, hxl, cs', hlen with
      | [y0, y1, y2], _, [v0, v1, v2], _ =>
        have g0 := hff 0 _ rfl
        have g1 := hff 1 _ rfl
        have g2 := hff 2 _ rfl
        simp [cellsInt] at g0 g1 g2
        have e0 := hcell 0 (by omega)
        have e1 := hcell 1 (by omega)
        have e2 := hcell 2 (by omega)
        rw [Go.Deep.add_add] at e0 e1 e2
        obtain ⟨x, q0, -, -⟩ := DataW.trod_int Try.underlying3 g0
        obtain ⟨y, q1, -, -⟩ := DataW.trod_int Try.underlying3 g1
        obtain ⟨z, q2, -, -⟩ := DataW.trod_int Try.underlying3 g2
        simp at q0 q1 q2
        subst q0 q1 q2
        exact ⟨(x, y, z), by simpa using e0, by simpa using e1, by simpa using e2⟩
    obtain ⟨f, hf'⟩ := Go.Deep.choose_lt each
    refine ⟨_, _, _, (List.range m).map f, rfl, ?_, by simp, hl, (fun h => by cases h), (by rw [show len + (m - len) = m from by omega] at hreach; exact hreach)⟩
    rcases Nat.eq_zero_or_pos m with h0 | h0
    · subst h0
      exact .inl rfl
    · obtain ⟨c0, _, _⟩ := hf' 0 h0
      obtain ⟨ab, ao, asp⟩ := a
      have hsp := World.cell?_spot c0
      have hspot : asp = none := by simpa [Addr.add] using hsp
      subst hspot
      refine .inr ⟨ab, ao, rfl, ?_, fun j s t mm hj => ?_⟩
      · have := block_lt_of_cell c0
        simpa [Addr.add] using this
      · simp only [List.getElem?_map] at hj
        by_cases hjm : j < m
        · rw [List.getElem?_eq_getElem (by simpa using hjm)] at hj
          simp at hj
          obtain ⟨q0, q1, q2⟩ := hf' j hjm
          rw [Go.Addr.add_mid] at q0 q1 q2
          rw [hj] at q0 q1 q2
          exact ⟨q0, q1, q2⟩
        · rw [List.getElem?_eq_none (by simpa using hjm)] at hj
          cases hj
set_option maxRecDepth 100000 in
/-- Two lots and moves that came in. -/
theorem open_lots {H : Type} {enc : TypeId × Value → H} {W : World} {r : Reach} {b0 : Nat} {v : Value} {d : DataW H} {p : List MemPlace} (hv : Value.okWide Try.prog W r b0 34 v)
    (h : DataW.Trod enc Try.prog W 0 (fun _ => true) true 34 v d p) (hr : ∀ k ∈ d.weights Try.prog 34, k ≤ reachN) :
    ∃ A n c zs B m e ys C l k ms, v = .agg #[.slice A n c, .slice B m e, .slice C l k] ∧ Arg2 W A n c zs ∧ Arg2 W B m e ys ∧ Arg3 W C l k ms := by
  obtain ⟨c0, c1, c2, y0, y1, y2, m, rfl, hd, -, hy0, hy1, hy2⟩ := open_agg3 Try.underlying34 (by kernel_rfl) cellsLots hv h
  have hw0 : ∀ k ∈ y0.1.weights Try.prog 22, k ≤ reachN := by
    intro k hk
    refine hr k ?_
    rw [hd]
    simp only [DataW.weights, Try.underlying34]
    rw [show (#[_, _, _] : Array Field).toList.map (·.type) = [22, 22, 32] from rfl, DataW.weightsEach, List.mem_append]
    exact .inl hk
  have hw1 : ∀ k ∈ y1.1.weights Try.prog 22, k ≤ reachN := by
    intro k hk
    refine hr k ?_
    rw [hd]
    simp only [DataW.weights, Try.underlying34]
    rw [show (#[_, _, _] : Array Field).toList.map (·.type) = [22, 22, 32] from rfl, DataW.weightsEach, List.mem_append]
    right
    rw [DataW.weightsEach, List.mem_append]
    exact .inl hk
  have hw2 : ∀ k ∈ y2.1.weights Try.prog 32, k ≤ reachN := by
    intro k hk
    refine hr k ?_
    rw [hd]
    simp only [DataW.weights, Try.underlying34]
    rw [show (#[_, _, _] : Array Field).toList.map (·.type) = [22, 22, 32] from rfl, DataW.weightsEach, List.mem_append]
    right
    rw [DataW.weightsEach, List.mem_append]
    right
    rw [DataW.weightsEach, List.mem_append]
    exact .inl hk
  obtain ⟨A, n, c, zs, rfl, ha⟩ := open_grains1 hy0 hw0
  obtain ⟨B, m', e, ys, rfl, hb⟩ := open_grains1 hy1 hw1
  obtain ⟨C, l, k, ms, rfl, hc⟩ := open_moves1 hy2 hw2
  exact ⟨A, n, c, zs, B, m', e, ys, C, l, k, ms, rfl, ha, hb, hc⟩
end Go.Proofs.Ytmbhhooiaonhjaa
