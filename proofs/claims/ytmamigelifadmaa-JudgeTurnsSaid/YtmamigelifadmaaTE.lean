/- What may be overwritten. -/
import Derived.Test.YtmamigelifadmaaTD
namespace Go.Proofs.Ytmamigelifadmaa
open Go.RowKit

/-- Block h holds n slices whose cells lie in other blocks, all from 'base' on, and may be written. -/
structure HeadQ (base : Nat) (w : World) (h n : Nat) : Prop where
  lt : h < w.heap.size
  low : base ≤ h
  els : ∀ j, j < n → ∃ A' n' c', w.cell? ⟨h, j * 2, none⟩ = some (.slice A' n' c') ∧ n' ≤ maxLen ∧ ∀ i, i < n' → ∃ b o, A' = some ⟨b, o, none⟩ ∧ base ≤ b ∧ b < w.heap.size ∧ b ≠ h ∧ (∃ v, w.cell? ⟨b, o + i, none⟩ = some v) ∧ w.frozen? ⟨b, o + i, none⟩ = false
theorem HeadZ.toQ {base base' h n : Nat} {w : World} {T : List An} (z : HeadZ base' w h n n T) (hT : T.length = n) (hb : base ≤ base') : HeadQ base w h n := by
  refine ⟨z.lt, Nat.le_trans hb z.low, fun j hj => ?_⟩
  obtain ⟨⟨ns, y⟩, hg⟩ : ∃ x, T[j]? = some x := ⟨_, List.getElem?_eq_getElem (by rw [hT]; exact hj)⟩
  obtain ⟨A', n', c', h1, h2, h3, h4, h5, h6⟩ := z.els j ns y hj hg
  refine ⟨A', n', c', h1, h5, fun i hi => ?_⟩
  obtain ⟨b, o, v, hA, hbl, -, hc⟩ := h3.at_ (k := i) (by omega)
  obtain ⟨q1, q2, q3, q4⟩ := h6 b o hA
  exact ⟨b, o, hA, Nat.le_trans hb q1, q2, q3, ⟨_, hc⟩, q4 _⟩
theorem HeadQ.bel {base h n : Nat} {w w' : World} (z : HeadQ base w h n) (hb : Bel w w') : HeadQ base w' h n := by
  refine ⟨Nat.lt_of_lt_of_le z.lt hb.size, z.low, fun j hj => ?_⟩
  obtain ⟨A', n', c', h1, h2, h3⟩ := z.els j hj
  refine ⟨A', n', c', by rw [hb.use.1 _ _ z.lt]; exact h1, h2, fun i hi => ?_⟩
  obtain ⟨b, o, e, q1, q2, q3, ⟨v, q4⟩, q5⟩ := h3 i hi
  exact ⟨b, o, e, q1, Nat.lt_of_lt_of_le q2 hb.size, q3, ⟨v, by rw [hb.use.1 _ _ q2]; exact q4⟩, by rw [hb.use.2.1 _ _ q2]; exact q5⟩
theorem HeadQ.put {base h n : Nat} {w : World} (z : HeadQ base w h n) {p : Addr} (hp : p.block ≠ h) (u : Value) : HeadQ base (w.setCell p u) h n := by
  refine ⟨by simpa [World.setCell] using z.lt, z.low, fun j hj => ?_⟩
  obtain ⟨A', n', c', h1, h2, h3⟩ := z.els j hj
  refine ⟨A', n', c', ?_, h2, fun i hi => ?_⟩
  · rw [World.cell?_setCell_other _ _ _ _ (fun e => hp (by have := congrArg Addr.block e; first | exact this | exact this.symm))]
    exact h1
  · obtain ⟨b, o, e, q1, q2, q3, ⟨v, q4⟩, q5⟩ := h3 i hi
    refine ⟨b, o, e, q1, by simpa [World.setCell] using q2, q3, ?_, by rw [World.frozen?_setCell]; exact q5⟩
    by_cases hpe : p = ⟨b, o + i, none⟩
    · subst hpe
      exact ⟨u, World.cell?_setCell_same _ _ _ q4⟩
    · exact ⟨v, by rw [World.cell?_setCell_other _ _ _ _ (fun e => hpe (by first | exact e | exact e.symm))]; exact q4⟩
end Go.Proofs.Ytmamigelifadmaa
