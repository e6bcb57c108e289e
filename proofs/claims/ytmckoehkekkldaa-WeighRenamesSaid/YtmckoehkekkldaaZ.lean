/- Long of the laws; the laws' arguments, opened: plans, lists of integers. -/
import Derived.Test.YtmckoehkekkldaaS
import Derived.ProofKit
import Derived.OpenShut
import Derived.Lib.SmallJoins
import Derived.ChangeOld
import Derived.SizedLaws
import Derived.Deep.SlicePairs
namespace Go.Proofs.Ytmckoehkekkldaa
open Go.ChangeShapes Go.WideShapes Go.ChangeAt Go.RowKit Go.Joins

/-- Some Bool. -/
def ABool (e : Ending) : Prop := ∃ b : Bool, e = .returned (.bool b)
set_option maxRecDepth 100000 in
set_option maxHeartbeats 1000000 in
theorem long_any (lo : Nat) (A : Option Addr) (m c : Nat) (P : List Wg) (w : World) (hR : Plan lo w A P) (hm : P.length = m) (hmax : m ≤ maxLen) :
    Calls Try.prog 40 #[.slice A m c] w fun e w' => ABool e ∧ w = w' := by
  have Hm := Lib.hid hm
  have h63 : (m : Int) ≤ 9223372036854775807 := by unfold maxLen at hmax; omega
  clear hm hmax
  by_cases h50 : m > 50
  · have hi50 : (m : Int) > 50 := by omega
    go_enter Try.func40, Try.ntmps40
    go_wp2
    go_ret
    exact ⟨⟨_, rfl⟩, rfl⟩
  · have hi50 : ¬ (m : Int) > 50 := by omega
    go_enter Try.func40, Try.ntmps40
    go_wp2
    go_loop [3] (fun i => ∃ k : Nat, k ≤ m ∧ i = .int .i64 k) (fun i => m - (intOf i).toNat)
    case atStart => exact ⟨0, Nat.zero_le _, rfl⟩
    case round =>
      obtain ⟨k, hk, rfl⟩ := hrel
      by_cases hlt : k < m
      · obtain ⟨b, o, l, r, A1, n1, c1, A2, n2, c2, rfl, hbl, hg, q1, q2, hI, hl1, hx1, hJ, hl2, hx2⟩ := hR.at_ (k := k) (by rw [Hm.out]; exact hlt)
        have hki : (k : Int) < (m : Int) := by omega
        have hk0 : (0 : Int) ≤ (k : Int) := by omega
        clear hg hl1 hl2 hx1 hx2
        by_cases g1 : n1 > 50
        · have gi1 : (n1 : Int) > 50 := by omega
          go_wp2
          go_ret
          exact ⟨⟨_, rfl⟩, rfl⟩
        · have gi1 : ¬ (n1 : Int) > 50 := by omega
          by_cases g2 : n2 > 50
          · have gi2 : (n2 : Int) > 50 := by omega
            go_wp2
            go_ret
            exact ⟨⟨_, rfl⟩, rfl⟩
          · have gi2 : ¬ (n2 : Int) > 50 := by omega
            go_wp2
            go_round
            case rel => exact ⟨k + 1, by omega, by go_num⟩
            case measure => simp [intOf]; omega
      · obtain rfl : k = m := by omega
        go_wp2
        go_ret
        exact ⟨⟨_, rfl⟩, rfl⟩

theorem own : ownKnob Try.prog.godebug = none := by kernel_rfl
theorem laidOut : laidOutB Try.prog = true := by kernel_rfl
theorem cellsWeighing : Try.prog.cellsOf 50 = 2 := by kernel_rfl
theorem cellsCase : Try.prog.cellsOf 24 = 2 := by kernel_rfl
theorem cellsInts : Try.prog.cellsOf 28 = 1 := by kernel_rfl
theorem cellsInt : Try.prog.cellsOf 3 = 1 := by kernel_rfl
theorem bytesWeighing : Try.prog.bytesOf 50 = 48 := by kernel_rfl
theorem bytesInts : Try.prog.bytesOf 28 = 24 := by kernel_rfl
theorem bytesInt : Try.prog.bytesOf 3 = 8 := by kernel_rfl
theorem reach_eq : reachBytes = reachN := rfl
section
variable {H : Type}
theorem weightsAll_mem {P : Program} {e : TypeId} {d : DataW H} {k : Nat} (hk : k ∈ d.weights P e) : ∀ l : List (DataW H), d ∈ l → k ∈ DataW.weightsAll P e l
  | [], h => by cases h
  | x :: r, h => by
    rw [DataW.weightsAll, List.mem_append]
    rcases List.mem_cons.1 h with rfl | h
    · exact .inl hk
    · exact .inr (weightsAll_mem hk r h)
/-- A slice of integers among what came in. -/
theorem open_ints1 {enc : TypeId × Value → H} {W : World} {fuel : Nat} {v : Value} {x : DataW H × List MemPlace} (h : DataW.trod enc Try.prog W 0 (fun _ => true) true fuel 28 [v] = some x) (hw : ∀ k ∈ x.1.weights Try.prog 28, k ≤ reachN) :
    ∃ A n c zs, v = .slice A n c ∧ Ints W A zs ∧ zs.length = c ∧ n ≤ c ∧ (A = none → c = 0) ∧ c * 8 ≤ reachN := by
  rcases Go.Deep.open_slice1 Try.underlying28 cellsInt h with ⟨hcs, _⟩ | ⟨a, len, cap, m, k, V, D, Pl, hcs, _, hl, hmax, hm, hx, hi⟩
  · simp at hcs
    subst hcs
    exact ⟨_, _, _, [], rfl, .inl rfl, rfl, Nat.le_refl _, fun _ => rfl, by simp⟩
  · simp at hcs
    subst hcs
    simp only [if_true] at hm
    subst hm
    have hreach : m * 8 ≤ reachN := by
      refine hw _ ?_
      rw [hx]
      simp only [DataW.weights, Try.underlying28, List.length_map, List.length_range, bytesInt]
      rw [show len + (m - len) = m from by omega]
      exact List.mem_cons_self
    have each : ∀ i, i < m → ∃ x : Int, V i = .int .i64 x := by
      intro i him
      obtain ⟨_, t0⟩ := hi i him
      obtain ⟨x, e0, -, -⟩ := DataW.trod_int Try.underlying3 t0
      simp at e0
      exact ⟨x, e0⟩
    obtain ⟨f, hf'⟩ := Go.Deep.choose_lt each
    refine ⟨_, _, _, (List.range m).map f, rfl, ?_, by simp, hl, (fun h => by cases h), hreach⟩
    rcases Nat.eq_zero_or_pos m with h0 | h0
    · subst h0
      exact .inl rfl
    · obtain ⟨c0, _⟩ := hi 0 h0
      obtain ⟨ab, ao, asp⟩ := a
      have hsp := World.cell?_spot c0
      have hspot : asp = none := by simpa [Addr.add] using hsp
      subst hspot
      refine .inr ⟨ab, ao, rfl, ?_, fun j v hj => ?_⟩
      · have := block_lt_of_cell c0
        simpa [Addr.add] using this
      · simp only [List.getElem?_map] at hj
        by_cases hjm : j < m
        · rw [List.getElem?_eq_getElem (by simpa using hjm)] at hj
          simp at hj
          obtain ⟨q0, _⟩ := hi j hjm
          rw [Go.Addr.add_mid, hf' j hjm, hj] at q0
          exact q0
        · rw [List.getElem?_eq_none (by simpa using hjm)] at hj
          cases hj
/-- A list of integers that came in. -/
structure ArgI (w : World) (A : Option Addr) (n c : Nat) (zs : List Int) : Prop where
  ints : Ints w A zs
  len : zs.length = c
  le : n ≤ c
  nil : A = none → c = 0
  reach : c * 8 ≤ reachN
theorem ArgI.els {w : World} {A : Option Addr} {n c : Nat} {zs : List Int} (h : ArgI w A n c zs) : Ints w A (zs.take n) ∧ (zs.take n).length = n ∧ n ≤ maxLen := by
  have h1 := h.len
  have h2 := h.le
  have h3 := h.reach
  exact ⟨h.ints.take n, by rw [List.length_take]; omega, Nat.le_trans h2 (reachN_le h3 (by omega)).2⟩
set_option maxRecDepth 100000 in
theorem open_argI {enc : TypeId × Value → H} {W : World} {base : Nat} {v : Value} {d : DataW H} {p : List MemPlace} (hv : Value.okWide Try.prog W .any base 28 v)
    (h : DataW.Trod enc Try.prog W 0 (fun _ => true) true 28 v d p) (hr : ∀ k ∈ d.weights Try.prog 28, k ≤ reachN) : ∃ A n c zs, v = .slice A n c ∧ ArgI W A n c zs := by
  obtain ⟨A, n, c, rfl⟩ := okWide_slice Try.underlying28 hv
  obtain ⟨fuel, hf⟩ := h
  obtain ⟨A', n', c', zs, e, h1, h2, h3, h4, h5⟩ := open_ints1 (x := (d, p)) (v := .slice A n c) (by simpa [Value.cells] using hf) hr
  exact ⟨A', n', c', zs, e, h1, h2, h3, h4, h5⟩

set_option maxRecDepth 100000 in
theorem open_argW {enc : TypeId × Value → H} {W : World} {base : Nat} {v : Value} {d : DataW H} {p : List MemPlace} (hv : Value.okWide Try.prog W .any base 22 v)
    (h : DataW.Trod enc Try.prog W 0 (fun _ => true) true 22 v d p) (hr : ∀ k ∈ d.weights Try.prog 22, k ≤ reachN) : ∃ A n c Z, v = .slice A n c ∧ ArgP W A n c Z := by
  obtain ⟨A, n, c, rfl⟩ := okWide_slice Try.underlying22 hv
  obtain ⟨fuel, hf⟩ := h
  rcases Go.Deep.open_slice_pairs Try.underlying22 Try.underlying50 cellsWeighing rfl rfl cellsInts cellsInts hf with ⟨hcs, _⟩ | ⟨a, len, cap, m, k, V0, V1, D0, D1, P0, P1, hcs, _, hl, hmax, hm, hx, hi⟩
  · simp [Value.cells] at hcs
    obtain ⟨rfl, rfl, rfl⟩ := hcs
    exact ⟨_, _, _, [], rfl, .inl rfl, rfl, Nat.le_refl _, fun _ => rfl, by simp⟩
  · simp [Value.cells] at hcs
    obtain ⟨rfl, rfl, rfl⟩ := hcs
    simp only [if_true] at hm
    subst hm
    simp only [Prod.mk.injEq] at hx
    obtain ⟨hd, hp⟩ := hx
    have hreach : m * 48 ≤ reachN := by
      refine hr _ ?_
      rw [hd]
      simp only [DataW.weights, Try.underlying22, List.length_map, List.length_range, bytesWeighing]
      rw [show n + (m - n) = m from by omega]
      exact List.mem_cons_self
    have inAll : ∀ i, i < m → ∀ q ∈ (DataW.agg [D0 i, D1 i]).weights Try.prog 50, q ≤ reachN := by
      intro i him q hq
      refine hr _ ?_
      rw [hd]
      simp only [DataW.weights, Try.underlying22]
      refine List.mem_cons_of_mem _ ?_
      by_cases hin : i < n
      · refine List.mem_append_left _ (weightsAll_mem hq _ ?_)
        exact List.mem_map.2 ⟨i, List.mem_range.2 hin, rfl⟩
      · refine List.mem_append_right _ (weightsAll_mem hq _ ?_)
        exact List.mem_map.2 ⟨i - n, List.mem_range.2 (by omega), by rw [show n + (i - n) = i from by omega]⟩
    have hagg : ∀ i, (DataW.agg [D0 i, D1 i]).weights Try.prog 50 = DataW.weightsEach Try.prog [28, 28] [D0 i, D1 i] := by
      intro i
      simp only [DataW.weights, Try.underlying50]
      rfl
    have hw0 : ∀ i, i < m → ∀ q ∈ (D0 i).weights Try.prog 28, q ≤ reachN := by
      intro i him q hq
      refine inAll i him q ?_
      rw [hagg, DataW.weightsEach, List.mem_append]
      exact .inl hq
    have hw1 : ∀ i, i < m → ∀ q ∈ (D1 i).weights Try.prog 28, q ≤ reachN := by
      intro i him q hq
      refine inAll i him q ?_
      rw [hagg, DataW.weightsEach, List.mem_append, DataW.weightsEach, List.mem_append]
      exact .inr (.inl hq)
    have each : ∀ i, i < m → ∃ x : WgZ × (Option Addr × Nat) × (Option Addr × Nat), (V0 i = .slice x.2.1.1 x.1.1.2 x.2.1.2 ∧ V1 i = .slice x.2.2.1 x.1.2.2 x.2.2.2) ∧
        (Ints W x.2.1.1 x.1.1.1 ∧ x.1.1.1.length = x.2.1.2 ∧ x.1.1.2 ≤ x.2.1.2 ∧ (x.2.1.1 = none → x.2.1.2 = 0) ∧ x.2.1.2 * 8 ≤ reachN) ∧ (Ints W x.2.2.1 x.1.2.1 ∧ x.1.2.1.length = x.2.2.2 ∧ x.1.2.2 ≤ x.2.2.2 ∧ (x.2.2.1 = none → x.2.2.2 = 0) ∧ x.2.2.2 * 8 ≤ reachN) := by
      intro i him
      obtain ⟨_, _, t0, t1⟩ := hi i him
      obtain ⟨A1, n1, c1, xs, e0, h1⟩ := open_ints1 (x := (D0 i, P0 i)) t0 (hw0 i him)
      obtain ⟨A2, n2, c2, ys, e1, h2⟩ := open_ints1 (x := (D1 i, P1 i)) t1 (hw1 i him)
      exact ⟨(((xs, n1), (ys, n2)), (A1, c1), (A2, c2)), ⟨e0, e1⟩, h1, h2⟩
    obtain ⟨f, hf'⟩ := Go.Deep.choose_lt each
    refine ⟨_, _, _, (List.range m).map fun i => (f i).1, rfl, ?_, by simp, hl, (fun h => by cases h), hreach⟩
    rcases Nat.eq_zero_or_pos m with h0 | h0
    · subst h0
      exact .inl rfl
    · obtain ⟨c0, _, _, _⟩ := hi 0 h0
      obtain ⟨ab, ao, asp⟩ := a
      have hsp := World.cell?_spot c0
      have hspot : asp = none := by simpa [Addr.add] using hsp
      subst hspot
      refine .inr ⟨ab, ao, rfl, ?_, fun j l r hj => ?_⟩
      · have := block_lt_of_cell c0
        simpa [Addr.add] using this
      · simp only [List.getElem?_map] at hj
        by_cases hjm : j < m
        · rw [List.getElem?_eq_getElem (by simpa using hjm)] at hj
          simp at hj
          obtain ⟨q0, q1, _, _⟩ := hi j hjm
          obtain ⟨⟨r0, r1⟩, r2, r3⟩ := hf' j hjm
          rw [Go.Addr.add_mid] at q0 q1
          rw [r0] at q0
          rw [r1] at q1
          rw [hj] at q0 q1 r2 r3
          exact ⟨_, _, _, _, q0, q1, r2, r3⟩
        · rw [List.getElem?_eq_none (by simpa using hjm)] at hj
          cases hj
end
end Go.Proofs.Ytmckoehkekkldaa
