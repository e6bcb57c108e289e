/- Records: NextError; a record with one more answer, in memory. -/
import Derived.Test.YtmklpldmgmjlkaaKS
import Derived.Test.YtmklpldmgmjlkaaJN
namespace Go.Proofs.Ytmklpldmgmjlkaa
open Go.RowKit

/-- The cells of a slice of answers. -/
theorem Ans.cellsV {w : World} {A : Option Addr} {L : List An} (h : Ans w A L) (hne : L ≠ []) :
    ∃ (b o : Nat) (vs : List Value), A = some ⟨b, o, none⟩ ∧ b < w.heap.size ∧ vs.length = L.length * 2 ∧ (∀ u ∈ vs, u.oneCell' = true) ∧ ∀ j, j < L.length * 2 → w.cell? ⟨b, o + j, none⟩ = vs[j]? := by
  rcases h with h | ⟨b, o, rfl, hl, hc⟩
  · exact absurd h hne
  · have key : ∀ j, j < L.length * 2 → ∃ u, w.cell? ⟨b, o + j, none⟩ = some u ∧ u.oneCell' = true := by
      intro j hj
      have hj2 : j / 2 < L.length := by omega
      obtain ⟨A', n', c', h1, h2, -⟩ := hc (j / 2) L[j / 2].1 L[j / 2].2 (List.getElem?_eq_getElem hj2)
      rcases (by omega : j = j / 2 * 2 ∨ j = j / 2 * 2 + 1) with e | e
      · rw [e]; exact ⟨_, h1, rfl⟩
      · rw [e, ← Nat.add_assoc]; exact ⟨_, h2, rfl⟩
    refine ⟨b, o, (List.range (L.length * 2)).map fun j => (w.cell? ⟨b, o + j, none⟩).getD (.bool false), rfl, hl, by simp, fun u hu => ?_, fun j hj => ?_⟩
    · obtain ⟨j, hj, rfl⟩ := List.mem_map.1 hu
      obtain ⟨u, h1, h2⟩ := key j (List.mem_range.1 hj)
      rw [h1]; exact h2
    · obtain ⟨u, h1, -⟩ := key j hj
      simp [hj, h1]
theorem Ans.longer {w w3 : World} {b o base e g cap n1 c1 : Nat} {L : List An} {vs : List Value} {A1 : Option Addr} {S : List Int} {y : Bool} (h : Ans w (some ⟨b, o, none⟩) L) (hv : ∀ j, j < L.length * 2 → w.cell? ⟨b, o + j, none⟩ = vs[j]?) (hl : vs.length = L.length * 2) (hb : Bel w w3)
    (hown : w3.ownsRow base e 2 (.slice (some ⟨g, 0, none⟩) (L.length + 1) cap) (L.length + 1) (vs ++ [.slice A1 n1 c1, .bool y])) (hI : Ints w A1 S) (hn : S.length = n1) (hm : n1 ≤ maxLen) : Ans w3 (some ⟨g, 0, none⟩) (L ++ [(S, y)]) := by
  have hlt := (World.ownsRow.lt hown g rfl).2
  have hc := World.ownsRow.cells (g := g) hown rfl
  refine .inr ⟨g, 0, rfl, hlt, fun j ns z hj => ?_⟩
  by_cases hjl : j < L.length
  · rw [List.getElem?_append_left hjl] at hj
    rcases h with rfl | ⟨b', o', he, hbl, hcc⟩
    · simp at hjl
    · injection he with he
      injection he with e1 e2 e3
      subst e1 e2
      obtain ⟨A', n', c', h1, h2, h3, h4, h5⟩ := hcc j ns z hj
      rw [hv _ (by omega)] at h1
      rw [Nat.add_assoc, hv _ (by omega)] at h2
      have k1 := hc (j * 2) _ (by rw [List.getElem?_append_left (by omega)]; exact h1)
      have k2 := hc (j * 2 + 1) _ (by rw [List.getElem?_append_left (by omega)]; exact h2)
      rw [Go.Addr.add_mid] at k1 k2
      exact ⟨A', n', c', k1, k2, h3.bel hb, h4, h5⟩
  · obtain rfl : j = L.length := by
      have := (List.getElem?_eq_some_iff.1 hj).1
      simp at this
      omega
    rw [List.getElem?_append_right (Nat.le_refl _), Nat.sub_self] at hj
    simp at hj
    obtain ⟨rfl, rfl⟩ := hj
    have k1 := hc (L.length * 2) _ (by rw [List.getElem?_append_right (by omega), hl, Nat.sub_self]; rfl)
    have k2 := hc (L.length * 2 + 1) _ (by rw [List.getElem?_append_right (by omega), hl, show L.length * 2 + 1 - L.length * 2 = 1 from by omega]; rfl)
    rw [Go.Addr.add_mid] at k1 k2
    exact ⟨A1, n1, c1, k1, k2, hI.bel hb, hn, hm⟩
theorem longer_err {g : Int} {L : List An} {S : List Int} {y : Bool} (he : errA g L = 0) (hl : L.length < 12) (hS : setB S g = true) : errA g (L ++ [(S, y)]) = 0 := by
  obtain ⟨h1, h2, h3⟩ := errA_zero he
  unfold errA
  rw [if_pos h1, if_neg (by simp; omega), if_pos]
  unfold setsB at h3 ⊢
  rw [List.all_append, h3]
  simp [hS]
end Go.Proofs.Ytmklpldmgmjlkaa

