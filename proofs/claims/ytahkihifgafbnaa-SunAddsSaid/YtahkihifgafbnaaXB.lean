/- Long of the laws; the laws' arguments, opened: tables and lists of integers. -/
import Derived.Test.YtahkihifgafbnaaT
import Derived.Test.YtahkihifgafbnaaV
import Derived.Test.YtahkihifgafbnaaD
import Derived.ProofKit
import Derived.OpenShut
import Derived.Lib.SmallJoins
import Derived.ChangeOld
import Derived.SizedLaws
import Derived.Deep.SlicePairs
namespace Go.Proofs.Ytahkihifgafbnaa
open Go.ChangeShapes Go.WideShapes Go.ChangeAt Go.RowKit Go.Joins

/-- Some Bool. -/
def ABool (e : Ending) : Prop := ∃ b : Bool, e = .returned (.bool b)
set_option maxRecDepth 100000 in
set_option maxHeartbeats 1000000 in
theorem long_any (lo : Nat) (A : Option Addr) (n c : Nat) (T : List (List Int)) (w : World) (hR : Tab lo w A T) (hn : T.length = n) (hmax : n ≤ maxLen) :
    Calls Try.prog 35 #[.slice A n c] w fun e w' => ABool e ∧ w = w' := by
  have Hn := Lib.hid hn
  have h63 : (n : Int) ≤ 9223372036854775807 := by unfold maxLen at hmax; omega
  clear hn hmax
  go_enter Try.func35, Try.ntmps35
  go_wp2
  go_loop [3] (fun i => ∃ k : Nat, k ≤ n ∧ i = .int .i64 k) (fun i => n - (intOf i).toNat)
  case atStart => exact ⟨0, Nat.zero_le _, rfl⟩
  case round =>
    obtain ⟨k, hk, rfl⟩ := hrel
    by_cases hlt : k < n
    · obtain ⟨b, o, ns, A1, n1, c1, rfl, hbl, hg, q1, hI, hl1, hx1⟩ := hR.at_ (k := k) (by rw [Hn.out]; exact hlt)
      have hki : (k : Int) < (n : Int) := by omega
      have hk0 : (0 : Int) ≤ (k : Int) := by omega
      clear hg hl1 hx1
      go_wp2_with fail
      refine (many_any A1 n1 c1 _).mono ?_
      rintro e w1 ⟨rfl, rfl⟩
      cases hd : decide (40 < n1)
      · clear hd
        go_wp2
        go_round
        case rel => exact ⟨k + 1, by omega, by go_num⟩
        case measure => simp [intOf]; omega
      · clear hd
        go_wp2
        go_ret
        exact ⟨⟨_, rfl⟩, rfl⟩
    · obtain rfl : n = k := by omega
      by_cases h40 : 40 < (n : Int)
      · go_wp2
        go_ret
        exact ⟨⟨_, rfl⟩, rfl⟩
      · have h40' : (n : Int) ≤ 40 := by omega
        go_wp2
        go_ret
        exact ⟨⟨_, rfl⟩, rfl⟩

theorem own : ownKnob Try.prog.godebug = none := by kernel_rfl
theorem laidOut : laidOutB Try.prog = true := by kernel_rfl
theorem cellsInts : Try.prog.cellsOf 26 = 1 := by kernel_rfl
theorem cellsInt : Try.prog.cellsOf 3 = 1 := by kernel_rfl
theorem bytesInts : Try.prog.bytesOf 26 = 24 := by kernel_rfl
theorem bytesInt : Try.prog.bytesOf 3 = 8 := by kernel_rfl
theorem reach_eq : reachBytes = reachN := rfl
section
variable {H : Type}
theorem weightsAll_mem {P : Program} {e : TypeId} {d : DataW H} {k : Nat} (hk : k ∈ d.weights P e) : ∀ l : List (DataW H), d ∈ l → k ∈ DataW.weightsAll P e l
  | [], h => by cases h
  | x :: r, h => by
    rw [DataW.weightsAll, List.mem_append]
    rcases List.mem_cons.1 h with rfl | h
    · exact .inl hk
    · exact .inr (weightsAll_mem hk r h)
/-- A slice of integers among what came in. -/
theorem open_ints1 {enc : TypeId × Value → H} {W : World} {fuel : Nat} {v : Value} {x : DataW H × List MemPlace} (h : DataW.trod enc Try.prog W 0 (fun _ => true) true fuel 26 [v] = some x) (hw : ∀ k ∈ x.1.weights Try.prog 26, k ≤ reachN) :
    ∃ A n c zs, v = .slice A n c ∧ Ints W A zs ∧ zs.length = c ∧ n ≤ c ∧ (A = none → c = 0) ∧ c * 8 ≤ reachN := by
  rcases Go.Deep.open_slice1 Try.underlying26 cellsInt h with ⟨hcs, _⟩ | ⟨a, len, cap, m, k, V, D, Pl, hcs, _, hl, hmax, hm, hx, hi⟩
  · simp at hcs
    subst hcs
    exact ⟨_, _, _, [], rfl, .inl rfl, rfl, Nat.le_refl _, fun _ => rfl, by simp⟩
  · simp at hcs
    subst hcs
    simp only [if_true] at hm
    subst hm
    have hreach : m * 8 ≤ reachN := by
      refine hw _ ?_
      rw [hx]
      simp only [DataW.weights, Try.underlying26, List.length_map, List.length_range, bytesInt]
      rw [show len + (m - len) = m from by omega]
      exact List.mem_cons_self
    have each : ∀ i, i < m → ∃ x : Int, V i = .int .i64 x := by
      intro i him
      obtain ⟨_, t0⟩ := hi i him
      obtain ⟨x, e0, -, -⟩ := DataW.trod_int Try.underlying3 t0
      simp at e0
      exact ⟨x, e0⟩
    obtain ⟨f, hf'⟩ := Go.Deep.choose_lt each
    refine ⟨_, _, _, (List.range m).map f, rfl, ?_, by simp, hl, (fun h => by cases h), hreach⟩
    rcases Nat.eq_zero_or_pos m with h0 | h0
    · subst h0
      exact .inl rfl
    · obtain ⟨c0, _⟩ := hi 0 h0
      obtain ⟨ab, ao, asp⟩ := a
      have hsp := World.cell?_spot c0
      have hspot : asp = none := by simpa [Addr.add] using hsp
      subst hspot
      refine .inr ⟨ab, ao, rfl, ?_, fun j v hj => ?_⟩
      · have := block_lt_of_cell c0
        simpa [Addr.add] using this
      · simp only [List.getElem?_map] at hj
        by_cases hjm : j < m
        · rw [List.getElem?_eq_getElem (by simpa using hjm)] at hj
          simp at hj
          obtain ⟨q0, _⟩ := hi j hjm
          rw [Go.Addr.add_mid, hf' j hjm, hj] at q0
          exact q0
        · rw [List.getElem?_eq_none (by simpa using hjm)] at hj
          cases hj
/-- A list of integers that came in. -/
structure ArgI (w : World) (A : Option Addr) (n c : Nat) (zs : List Int) : Prop where
  ints : Ints w A zs
  len : zs.length = c
  le : n ≤ c
  nil : A = none → c = 0
  reach : c * 8 ≤ reachN
theorem ArgI.els {w : World} {A : Option Addr} {n c : Nat} {zs : List Int} (h : ArgI w A n c zs) : Ints w A (zs.take n) ∧ (zs.take n).length = n ∧ n ≤ maxLen := by
  have h1 := h.len
  have h2 := h.le
  have h3 := h.reach
  exact ⟨h.ints.take n, by rw [List.length_take]; omega, Nat.le_trans h2 (reachN_le h3 (by omega)).2⟩
set_option maxRecDepth 100000 in
theorem open_argI {enc : TypeId × Value → H} {W : World} {base : Nat} {v : Value} {d : DataW H} {p : List MemPlace} (hv : Value.okWide Try.prog W .any base 26 v)
    (h : DataW.Trod enc Try.prog W 0 (fun _ => true) true 26 v d p) (hr : ∀ k ∈ d.weights Try.prog 26, k ≤ reachN) : ∃ A n c zs, v = .slice A n c ∧ ArgI W A n c zs := by
  obtain ⟨A, n, c, rfl⟩ := okWide_slice Try.underlying26 hv
  obtain ⟨fuel, hf⟩ := h
  obtain ⟨A', n', c', zs, e, h1, h2, h3, h4, h5⟩ := open_ints1 (x := (d, p)) (v := .slice A n c) (by simpa [Value.cells] using hf) hr
  exact ⟨A', n', c', zs, e, h1, h2, h3, h4, h5⟩

set_option maxRecDepth 100000 in
theorem open_argT {enc : TypeId × Value → H} {W : World} {base : Nat} {v : Value} {d : DataW H} {p : List MemPlace} (hv : Value.okWide Try.prog W .any base 22 v)
    (h : DataW.Trod enc Try.prog W 0 (fun _ => true) true 22 v d p) (hr : ∀ k ∈ d.weights Try.prog 22, k ≤ reachN) : ∃ A n c Z, v = .slice A n c ∧ ArgT W A n c Z := by
  obtain ⟨A, n, c, rfl⟩ := okWide_slice Try.underlying22 hv
  obtain ⟨fuel, hf⟩ := h
  rcases Go.Deep.open_slice1 Try.underlying22 cellsInts hf with ⟨hcs, _⟩ | ⟨a, len, cap, m, k, V, D, Pl, hcs, _, hl, hmax, hm, hx, hi⟩
  · simp [Value.cells] at hcs
    obtain ⟨rfl, rfl, rfl⟩ := hcs
    exact ⟨_, _, _, [], rfl, .inl rfl, rfl, Nat.le_refl _, fun _ => rfl, by simp⟩
  · simp [Value.cells] at hcs
    obtain ⟨rfl, rfl, rfl⟩ := hcs
    simp only [if_true] at hm
    subst hm
    simp only [Prod.mk.injEq] at hx
    obtain ⟨hd, hp⟩ := hx
    have hreach : m * 24 ≤ reachN := by
      refine hr _ ?_
      rw [hd]
      simp only [DataW.weights, Try.underlying22, List.length_map, List.length_range, bytesInts]
      rw [show n + (m - n) = m from by omega]
      exact List.mem_cons_self
    have inAll : ∀ i, i < m → ∀ q ∈ (D i).weights Try.prog 26, q ≤ reachN := by
      intro i him q hq
      refine hr _ ?_
      rw [hd]
      simp only [DataW.weights, Try.underlying22]
      refine List.mem_cons_of_mem _ ?_
      by_cases hin : i < n
      · refine List.mem_append_left _ (weightsAll_mem hq _ ?_)
        exact List.mem_map.2 ⟨i, List.mem_range.2 hin, rfl⟩
      · refine List.mem_append_right _ (weightsAll_mem hq _ ?_)
        exact List.mem_map.2 ⟨i - n, List.mem_range.2 (by omega), by rw [show n + (i - n) = i from by omega]⟩
    have each : ∀ i, i < m → ∃ x : RowZ × (Option Addr × Nat), V i = .slice x.2.1 x.1.2 x.2.2 ∧
        Ints W x.2.1 x.1.1 ∧ x.1.1.length = x.2.2 ∧ x.1.2 ≤ x.2.2 ∧ (x.2.1 = none → x.2.2 = 0) ∧ x.2.2 * 8 ≤ reachN := by
      intro i him
      obtain ⟨_, t0⟩ := hi i him
      obtain ⟨A1, n1, c1, xs, e0, h1⟩ := open_ints1 (x := (D i, Pl i)) t0 (inAll i him)
      exact ⟨((xs, n1), (A1, c1)), e0, h1⟩
    obtain ⟨f, hf'⟩ := Go.Deep.choose_lt each
    refine ⟨_, _, _, (List.range m).map fun i => (f i).1, rfl, ?_, by simp, hl, (fun h => by cases h), hreach⟩
    rcases Nat.eq_zero_or_pos m with h0 | h0
    · subst h0
      exact .inl rfl
    · obtain ⟨c0, _⟩ := hi 0 h0
      obtain ⟨ab, ao, asp⟩ := a
      have hsp := World.cell?_spot c0
      have hspot : asp = none := by simpa [Addr.add] using hsp
      subst hspot
      refine .inr ⟨ab, ao, rfl, ?_, fun j zs q hj => ?_⟩
      · have := block_lt_of_cell c0
        simpa [Addr.add] using this
      · simp only [List.getElem?_map] at hj
        by_cases hjm : j < m
        · rw [List.getElem?_eq_getElem (by simpa using hjm)] at hj
          simp at hj
          obtain ⟨q0, _⟩ := hi j hjm
          obtain ⟨r0, r1⟩ := hf' j hjm
          rw [Go.Addr.add_mid, r0, hj] at q0
          rw [hj] at r1
          exact ⟨_, _, q0, r1⟩
        · rw [List.getElem?_eq_none (by simpa using hjm)] at hj
          cases hj
end
end Go.Proofs.Ytahkihifgafbnaa
