/- The program's Turn. -/
import Derived.Test.YtmklpldmgmjlkaaTC
import Derived.Deep.RegionWith
namespace Go.Proofs.Ytmklpldmgmjlkaa
open Go.RowKit

theorem infoAns : (Try.prog.info? 30).map (fun i => (i.zero.isSome, i.size, i.bytes)) = some (true, 2, 32) := by kernel_rfl
/-- Block h has n answers, and the first k of them are those of T; all of it lies from 'base' on, the lists apart from the block. -/
structure HeadZ (base : Nat) (w : World) (h n k : Nat) (T : List An) : Prop where
  lt : h < w.heap.size
  low : base ≤ h
  fz : ∀ i, w.frozen? ⟨h, i, none⟩ = false
  all : ∀ i, i < n * 2 → ∃ v, w.cell? ⟨h, i, none⟩ = some v
  els : ∀ (j : Nat) (ns : List Int) (y : Bool), j < k → T[j]? = some (ns, y) → ∃ A' n' c', w.cell? ⟨h, j * 2, none⟩ = some (.slice A' n' c') ∧ w.cell? ⟨h, j * 2 + 1, none⟩ = some (.bool y) ∧ Ints w A' ns ∧ ns.length = n' ∧ n' ≤ maxLen ∧
    ∀ b o, A' = some ⟨b, o, none⟩ → base ≤ b ∧ b < w.heap.size ∧ b ≠ h ∧ ∀ i, w.frozen? ⟨b, i, none⟩ = false
theorem HeadZ.bel {base h n k : Nat} {w w' : World} {T : List An} (z : HeadZ base w h n k T) (hb : Bel w w') : HeadZ base w' h n k T := by
  refine ⟨Nat.lt_of_lt_of_le z.lt hb.size, z.low, fun i => by rw [hb.use.2.1 _ _ z.lt]; exact z.fz i, fun i hi => by rw [hb.use.1 _ _ z.lt]; exact z.all i hi, fun j ns y hj hT => ?_⟩
  obtain ⟨A', n', c', h1, h2, h3, h4, h5, h6⟩ := z.els j ns y hj hT
  refine ⟨A', n', c', by rw [hb.use.1 _ _ z.lt]; exact h1, by rw [hb.use.1 _ _ z.lt]; exact h2, h3.bel hb, h4, h5, fun b o e => ?_⟩
  obtain ⟨q1, q2, q3, q4⟩ := h6 b o e
  exact ⟨q1, Nat.lt_of_lt_of_le q2 hb.size, q3, fun i => by rw [hb.use.2.1 _ _ q2]; exact q4 i⟩
theorem Ints.far {w : World} {A : Option Addr} {ns : List Int} (h : Ints w A ns) {p : Addr} (hne : ∀ b o, A = some ⟨b, o, none⟩ → b ≠ p.block) (u : Value) : Ints (w.setCell p u) A ns := by
  rcases h with h | ⟨b, o, rfl, hl, hc⟩
  · exact .inl h
  · refine .inr ⟨b, o, rfl, by simpa [World.setCell] using hl, fun j v hj => ?_⟩
    have hne' := hne b o rfl
    rw [World.cell?_setCell_other _ _ _ _ (fun e => hne' (by have := congrArg Addr.block e; first | exact this | exact this.symm))]
    exact hc j v hj
theorem HeadZ.set {base h n k : Nat} {w : World} {T : List An} {ns : List Int} {y : Bool} {A' : Option Addr} {n' c' : Nat} (z : HeadZ base w h n k T) (hk : k < n) (hT : T[k]? = some (ns, y)) (hI : Ints w A' ns) (hl : ns.length = n') (hm : n' ≤ maxLen)
    (hA : ∀ b o, A' = some ⟨b, o, none⟩ → base ≤ b ∧ b < w.heap.size ∧ b ≠ h ∧ ∀ i, w.frozen? ⟨b, i, none⟩ = false) :
    HeadZ base ((w.setCell ⟨h, k * 2, none⟩ (.slice A' n' c')).setCell ⟨h, k * 2 + 1, none⟩ (.bool y)) h n (k + 1) T := by
  obtain ⟨v0, hv0⟩ := z.all (k * 2) (by omega)
  obtain ⟨v1, hv1⟩ := z.all (k * 2 + 1) (by omega)
  have far : ∀ i, i ≠ k * 2 → i ≠ k * 2 + 1 → ((w.setCell ⟨h, k * 2, none⟩ (.slice A' n' c')).setCell ⟨h, k * 2 + 1, none⟩ (.bool y)).cell? ⟨h, i, none⟩ = w.cell? ⟨h, i, none⟩ := fun i h1 h2 => by
    rw [World.cell?_setCell_other _ _ _ _ (by simp <;> omega), World.cell?_setCell_other _ _ _ _ (by simp <;> omega)]
  have e0 : ((w.setCell ⟨h, k * 2, none⟩ (.slice A' n' c')).setCell ⟨h, k * 2 + 1, none⟩ (.bool y)).cell? ⟨h, k * 2, none⟩ = some (.slice A' n' c') := by
    rw [World.cell?_setCell_other _ _ _ _ (by simp)]
    exact World.cell?_setCell_same _ _ _ hv0
  have e1 : ((w.setCell ⟨h, k * 2, none⟩ (.slice A' n' c')).setCell ⟨h, k * 2 + 1, none⟩ (.bool y)).cell? ⟨h, k * 2 + 1, none⟩ = some (.bool y) :=
    World.cell?_setCell_same _ _ _ (by rw [World.cell?_setCell_other _ _ _ _ (by simp)]; exact hv1)
  refine ⟨by simpa [World.setCell] using z.lt, z.low, fun i => by rw [World.frozen?_setCell, World.frozen?_setCell]; exact z.fz i, fun i hi => ?_, fun j ms u hj hTj => ?_⟩
  · by_cases h1 : i = k * 2
    · subst h1; exact ⟨_, e0⟩
    · by_cases h2 : i = k * 2 + 1
      · subst h2; exact ⟨_, e1⟩
      · rw [far i h1 h2]; exact z.all i hi
  · by_cases hjk : j = k
    · subst hjk
      rw [hT] at hTj
      injection hTj with hTj
      injection hTj with t1 t2
      subst t1 t2
      exact ⟨A', n', c', e0, e1, (hI.far (fun b o e => (hA b o e).2.2.1) _).far (fun b o e => (hA b o e).2.2.1) _, hl, hm, fun b o e => by
        obtain ⟨q1, q2, q3, q4⟩ := hA b o e
        exact ⟨q1, by simpa [World.setCell] using q2, q3, fun i => by rw [World.frozen?_setCell, World.frozen?_setCell]; exact q4 i⟩⟩
    · obtain ⟨A2, n2, c2, h1, h2, h3, h4, h5, h6⟩ := z.els j ms u (by omega) hTj
      exact ⟨A2, n2, c2, by rw [far _ (by omega) (by omega)]; exact h1, by rw [far _ (by omega) (by omega)]; exact h2, (h3.far (fun b o e => (h6 b o e).2.2.1) _).far (fun b o e => (h6 b o e).2.2.1) _, h4, h5, fun b o e => by
        obtain ⟨q1, q2, q3, q4⟩ := h6 b o e
        exact ⟨q1, by simpa [World.setCell] using q2, q3, fun i => by rw [World.frozen?_setCell, World.frozen?_setCell]; exact q4 i⟩⟩
theorem HeadZ.ans {base h n : Nat} {w : World} {T : List An} (z : HeadZ base w h n n T) (hn : T.length = n) : Ans w (some ⟨h, 0, none⟩) T := by
  refine .inr ⟨h, 0, rfl, z.lt, fun j ns y hj => ?_⟩
  have hjn : j < n := by rw [← hn]; exact (List.getElem?_eq_some_iff.1 hj).1
  obtain ⟨A', n', c', h1, h2, h3, h4, h5, -⟩ := z.els j ns y hjn hj
  exact ⟨A', n', c', by rw [Nat.zero_add]; exact h1, by rw [Nat.zero_add]; exact h2, h3, h4, h5⟩

theorem own1_far {e base : Nat} {w : World} {A : Option Addr} {n c : Nat} {l : List Int} (h : Own1 e base w (.slice A n c) l) : ∀ b o, A = some ⟨b, o, none⟩ → base ≤ b ∧ b < w.heap.size ∧ ∀ i, w.frozen? ⟨b, i, none⟩ = false := by
  intro b o hA
  subst hA
  have hlt := World.ownsRow.lt h b rfl
  have ho : o = 0 := by
    rcases h.2 with ⟨h', _⟩ | ⟨g', cap', cur, h', _⟩
    · simp at h'
    · simp only [Value.slice.injEq, Option.some.injEq, Addr.mk.injEq, and_true] at h'
      exact h'.1.2
  subst ho
  have hn : n = l.length := by
    obtain ⟨A', n', c', e, h1, -⟩ := h.form
    injection e with e1 e2 e3
    omega
  subst hn
  exact ⟨hlt.1, hlt.2, fun i => World.ownsRow.frozenAt h i⟩

end Go.Proofs.Ytmklpldmgmjlkaa

