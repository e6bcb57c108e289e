/- The law's arguments, opened: what is known of a slice that came in. -/
import Derived.Test.YtmbhhooiaonhjaaN
import Derived.ProofKit
import Derived.OpenShut
import Derived.Lib.SmallJoins
import Derived.ChangeOld
import Derived.SizedLaws
import Derived.Deep.SlicePairs
namespace Go.Proofs.Ytmbhhooiaonhjaa
open Go.ChangeShapes Go.WideShapes Go.ChangeAt Go.RowKit Go.Joins

theorem own : ownKnob Try.prog.godebug = none := by kernel_rfl
theorem laidOut : laidOutB Try.prog = true := by kernel_rfl
theorem cellsPot : Try.prog.cellsOf 30 = 2 := by kernel_rfl
theorem cellsGrain : Try.prog.cellsOf 52 = 2 := by kernel_rfl
theorem cellsMove : Try.prog.cellsOf 70 = 3 := by kernel_rfl
theorem cellsInt : Try.prog.cellsOf 3 = 1 := by kernel_rfl
theorem bytesGrain : Try.prog.bytesOf 52 = 16 := by kernel_rfl
theorem bytesMove : Try.prog.bytesOf 70 = 24 := by kernel_rfl
theorem bytesInt : Try.prog.bytesOf 3 = 8 := by kernel_rfl

/-- The most bytes that a slice may take which came in. -/
def reachN : Nat := 140737488351232
theorem reachN_le {c k : Nat} (h : c * k ≤ reachN) (hk : 0 < k) : c ≤ 140737488351232 ∧ c ≤ maxLen := by
  unfold reachN at h
  have : c ≤ c * k := Nat.le_mul_of_pos_right _ hk
  unfold maxLen
  omega
theorem reach0 (k : Nat) : 0 * k ≤ reachN := by simp

/-- A slice of pairs that came in: its first n of c cells are its elements. -/
structure Arg2 (w : World) (A : Option Addr) (n c : Nat) (zs : List (Int × Int)) : Prop where
  prs : Prs w A zs
  len : zs.length = c
  le : n ≤ c
  nil : A = none → c = 0
  reach : c * 16 ≤ reachN
/-- A part of what reads reads. -/
theorem Prs.take {w : World} {A : Option Addr} {zs : List (Int × Int)} (h : Prs w A zs) (n : Nat) : Prs w A (zs.take n) := by
  rcases h with rfl | ⟨b, o, rfl, hl, hc⟩
  · exact .inl (by simp)
  · refine .inr ⟨b, o, rfl, hl, fun j s m hj => hc j s m ?_⟩
    rw [List.getElem?_take] at hj
    split at hj
    · exact hj
    · cases hj
theorem Arg2.els {w : World} {A : Option Addr} {n c : Nat} {zs : List (Int × Int)} (h : Arg2 w A n c zs) : Prs w A (zs.take n) ∧ (zs.take n).length = n ∧ n ≤ maxLen := by
  have h1 := h.len
  have h2 := h.le
  have h3 := h.reach
  exact ⟨h.prs.take n, by rw [List.length_take]; omega, Nat.le_trans h2 (reachN_le h3 (by omega)).2⟩
theorem Arg2.bel {w w' : World} {A : Option Addr} {n c : Nat} {zs : List (Int × Int)} (h : Arg2 w A n c zs) (hb : Bel w w') : Arg2 w' A n c zs := ⟨h.prs.bel hb, h.len, h.le, h.nil, h.reach⟩

set_option maxRecDepth 100000 in
theorem open_arg2 {H : Type} {enc : TypeId × Value → H} {W : World} {base : Nat} {v : Value} {d : DataW H} {p : List MemPlace} (hv : Value.okWide Try.prog W .any base 22 v)
    (h : DataW.Trod enc Try.prog W 0 (fun _ => true) true 22 v d p) (hr : ∀ es sp, d = .slice es sp → (es.length + sp.length) * 16 ≤ reachN) :
    ∃ A n c zs, v = .slice A n c ∧ Arg2 W A n c zs := by
  obtain ⟨A, n, c, rfl⟩ := okWide_slice Try.underlying22 hv
  have hlt : ∀ x ∈ p, x.block < W.heap.size := by obtain ⟨m, hm⟩ := h; exact DataW.trod_lt m _ _ _ hm
  obtain ⟨fuel, hf⟩ := h
  rcases Go.Deep.open_slice_pairs Try.underlying22 Try.underlying52 cellsGrain rfl rfl cellsInt cellsInt hf with ⟨hcs, _⟩ | ⟨a, len, cap, m, k, V0, V1, D0, D1, P0, P1, hcs, _, hl, hmax, hm, hx, hi⟩
  · simp [Value.cells] at hcs
    obtain ⟨rfl, rfl, rfl⟩ := hcs
    exact ⟨_, _, _, [], rfl, .inl rfl, rfl, Nat.le_refl _, fun _ => rfl, reach0 _⟩
  · simp [Value.cells] at hcs
    obtain ⟨rfl, rfl, rfl⟩ := hcs
    simp only [if_true] at hm
    subst hm
    simp only [Prod.mk.injEq] at hx
    obtain ⟨hd, hp⟩ := hx
    have hreach := hr _ _ hd
    simp only [List.length_map, List.length_range] at hreach
    have each : ∀ i, i < m → ∃ x : Int × Int, V0 i = .int .i64 x.1 ∧ V1 i = .int .i64 x.2 := by
      intro i him
      obtain ⟨_, _, t0, t1⟩ := hi i him
      obtain ⟨x, e0, -, -⟩ := DataW.trod_int Try.underlying3 t0
      obtain ⟨y, e1, -, -⟩ := DataW.trod_int Try.underlying3 t1
      simp at e0 e1
      exact ⟨(x, y), e0, e1⟩
    obtain ⟨f, hf'⟩ := Go.Deep.choose_lt each
    refine ⟨_, _, _, (List.range m).map f, rfl, ?_, by simp, hl, (fun h => by cases h), (by rw [show n + (m - n) = m from by omega] at hreach; exact hreach)⟩
    rcases Nat.eq_zero_or_pos m with h0 | h0
    · subst h0
      exact .inl rfl
    · obtain ⟨c0, _, _, _⟩ := hi 0 h0
      obtain ⟨ab, ao, asp⟩ := a
      have hsp := World.cell?_spot c0
      have hspot : asp = none := by simpa [Addr.add] using hsp
      subst hspot
      refine .inr ⟨ab, ao, rfl, ?_, fun j s mm hj => ?_⟩
      · have := block_lt_of_cell c0
        simpa [Addr.add] using this
      · simp only [List.getElem?_map] at hj
        by_cases hjm : j < m
        · rw [List.getElem?_eq_getElem (by simpa using hjm)] at hj
          simp at hj
          obtain ⟨q0, q1, _, _⟩ := hi j hjm
          obtain ⟨r0, r1⟩ := hf' j hjm
          rw [Go.Addr.add_mid] at q0 q1
          rw [r0, hj] at q0
          rw [r1, hj] at q1
          exact ⟨q0, q1⟩
        · rw [List.getElem?_eq_none (by simpa using hjm)] at hj
          cases hj
end Go.Proofs.Ytmbhhooiaonhjaa

