/- The document's Validate. -/
import Derived.Test.YtfjegdejfccgaaaI
namespace Go.Proofs.Ytfjegdejfccgaaa
open Go.RowKit

def sumI (l : List Int) : Int := l.foldl (· + ·) 0
theorem sumI_snoc (l : List Int) (x : Int) : sumI (l ++ [x]) = sumI l + x := by simp [sumI]
theorem snocI {P : List Int → Prop} (h0 : P []) (h1 : ∀ l x, P l → P (l ++ [x])) (l : List Int) : P l := by
  have key : ∀ (n : Nat) (l : List Int), l.length = n → P l := by
    intro n
    induction n with
    | zero => intro l hl; rw [List.eq_nil_of_length_eq_zero hl]; exact h0
    | succ n ih =>
      intro l hl
      have hne : l ≠ [] := by intro e; rw [e] at hl; simp at hl
      rw [← List.dropLast_concat_getLast hne]
      exact h1 _ _ (ih _ (by rw [List.length_dropLast, hl]; rfl))
  exact key _ l rfl
theorem sumI_bd {l : List Int} (h : ∀ a ∈ l, 0 ≤ a ∧ a ≤ 9) : 0 ≤ sumI l ∧ sumI l ≤ 9 * (l.length : Int) := by
  revert h
  refine snocI (P := fun l => (∀ a ∈ l, 0 ≤ a ∧ a ≤ 9) → 0 ≤ sumI l ∧ sumI l ≤ 9 * (l.length : Int)) ?_ ?_ l
  · intro _; simp [sumI]
  · intro l x ih h
    have h1 := ih fun a ha => h a (by simp [ha])
    have h2 := h x (by simp)
    rw [sumI_snoc, List.length_append]
    simp
    omega
theorem sumI_zero {l : List Int} (h : ∀ a ∈ l, 0 ≤ a ∧ a ≤ 9) : maxI l = 0 ↔ sumI l = 0 := by
  have key : (∀ a ∈ l, 0 ≤ a ∧ a ≤ 9) → 0 ≤ maxI l ∧ (maxI l = 0 ↔ sumI l = 0) := by
    refine snocI (P := fun l => (∀ a ∈ l, 0 ≤ a ∧ a ≤ 9) → 0 ≤ maxI l ∧ (maxI l = 0 ↔ sumI l = 0)) ?_ ?_ l
    · intro _; simp [sumI, maxI]
    · intro l x ih h
      have hl : ∀ a ∈ l, 0 ≤ a ∧ a ≤ 9 := fun a ha => h a (by simp [ha])
      have h1 := ih hl
      have h2 := h x (by simp)
      have h3 := sumI_bd hl
      rw [sumI_snoc]
      by_cases hn : l = []
      · subst hn
        simp [maxI, sumI]
        omega
      · rw [maxI_snoc hn]
        refine ⟨by omega, ?_⟩
        constructor
        · intro e
          have : maxI l = 0 := by omega
          have := h1.2.1 this
          omega
        · intro e
          have := h1.2.2 (by omega)
          omega
  exact (key h).2
/-- Two tables behind each other, in new memory. -/
structure Both (w w' : World) (g n cap : Nat) (X Y : List (List Int)) : Prop where
  bel : Bel w w'
  tab : Tab 0 w' (some ⟨g, 0, none⟩) (X ++ Y)
  len : n = (X ++ Y).length
end Go.Proofs.Ytfjegdejfccgaaa
