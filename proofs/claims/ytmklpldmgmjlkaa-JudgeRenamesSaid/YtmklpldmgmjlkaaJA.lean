/- Plain mathematics of judging: for which states so many questions are enough. -/
import Derived.Test.YtmklpldmgmjlkaaRows
namespace Go.Proofs.Ytmklpldmgmjlkaa

/-- So many questions are enough for a grades that nothing is against, and b that one answer is against. -/
def en : Nat → Nat → Nat → Bool
  | 0, a, b => decide (a + b ≤ 1)
  | q + 1, a, b => decide (a + b ≤ 1) || (List.range (a + 1)).any fun x => (List.range (b + 1)).any fun y => en q x (y + (a - x)) && en q (a - x) (b - y + x)
/-- A question after both of whose answers q questions are enough. -/
def good (q a b x y : Nat) : Bool := en q x (y + (a - x)) && en q (a - x) (b - y + x)
theorem en_zero {a b : Nat} : en 0 a b = true ↔ a + b ≤ 1 := by simp [en]
theorem en_succ {q a b : Nat} : en (q + 1) a b = true ↔ a + b ≤ 1 ∨ ∃ x y, x ≤ a ∧ y ≤ b ∧ good q a b x y = true := by
  unfold en
  simp only [Bool.or_eq_true, decide_eq_true_eq, List.any_eq_true, List.mem_range]
  constructor
  · rintro (h | ⟨x, hx, y, hy, h⟩)
    · exact .inl h
    · exact .inr ⟨x, y, by omega, by omega, h⟩
  · rintro (h | ⟨x, y, hx, hy, h⟩)
    · exact .inl h
    · exact .inr ⟨x, by omega, y, by omega, h⟩
theorem good_iff {q a b x y : Nat} : good q a b x y = true ↔ en q x (y + (a - x)) = true ∧ en q (a - x) (b - y + x) = true := by unfold good; rw [Bool.and_eq_true]
theorem en_settled {q a b : Nat} (h : a + b ≤ 1) : en q a b = true := by
  cases q with
  | zero => exact en_zero.2 h
  | succ q => exact en_succ.2 (.inl h)
theorem en_up {q a b : Nat} (h : en q a b = true) : en (q + 1) a b = true := by
  induction q generalizing a b with
  | zero => exact en_settled (en_zero.1 h)
  | succ q ih =>
    rcases en_succ.1 h with h | ⟨x, y, hx, hy, h⟩
    · exact en_settled h
    · obtain ⟨h1, h2⟩ := good_iff.1 h
      exact en_succ.2 (.inr ⟨x, y, hx, hy, good_iff.2 ⟨ih h1, ih h2⟩⟩)
theorem en_mono {q p a b : Nat} (h : en q a b = true) (hp : q ≤ p) : en p a b = true := by
  obtain ⟨k, rfl⟩ := Nat.le.dest hp
  induction k with
  | zero => exact h
  | succ k ih => exact en_up (ih (by omega))
/-- Fewer grades need no more. -/
theorem en_less {q a b c d : Nat} (h : en q a b = true) (hc : c ≤ a) (hd : d ≤ b) : en q c d = true := by
  induction q generalizing a b c d with
  | zero => have := en_zero.1 h; exact en_zero.2 (by omega)
  | succ q ih =>
    rcases en_succ.1 h with h | ⟨x, y, hx, hy, h⟩
    · exact en_settled (by omega)
    · obtain ⟨h1, h2⟩ := good_iff.1 h
      refine en_succ.2 (.inr ⟨min x c, min y d, by omega, by omega, good_iff.2 ⟨ih h1 (by omega) (by omega), ih h2 (by omega) (by omega)⟩⟩)
theorem two_pow (q : Nat) : q + 2 ≤ 2 ^ (q + 1) := by
  induction q with
  | zero => decide
  | succ q ih => rw [Nat.pow_succ]; omega
/-- The weight forbids. -/
theorem en_weight {q a b : Nat} (h : en q a b = true) : a * (q + 1) + b ≤ 2 ^ q := by
  induction q generalizing a b with
  | zero => have := en_zero.1 h; simp; omega
  | succ q ih =>
    rcases en_succ.1 h with h | ⟨x, y, hx, hy, h⟩
    · have := two_pow q
      rcases (by omega : a = 0 ∨ a = 1) with rfl | rfl
      · omega
      · omega
    · obtain ⟨h1, h2⟩ := good_iff.1 h
      have i1 := ih h1
      have i2 := ih h2
      have e : x * (q + 1) + (a - x) * (q + 1) = a * (q + 1) := by rw [← Nat.add_mul]; congr 1; omega
      rw [Nat.pow_succ, show a * (q + 1 + 1) = a * (q + 1) + a from by rw [Nat.mul_succ]]
      omega
/-- One of a question's two forms names at most the half. -/
theorem good_half {q a b x y : Nat} (hx : x ≤ a) (hy : y ≤ b) (h : good q a b x y = true) : ∃ u v, u ≤ a / 2 ∧ v ≤ b ∧ good q a b u v = true := by
  by_cases hh : x ≤ a / 2
  · exact ⟨x, y, hh, hy, h⟩
  · obtain ⟨h1, h2⟩ := good_iff.1 h
    refine ⟨a - x, b - y, by omega, by omega, good_iff.2 ⟨?_, ?_⟩⟩
    · rw [show a - (a - x) = x from by omega]; exact h2
    · rw [show a - (a - x) = x from by omega, show b - (b - y) + (a - x) = y + (a - x) from by omega]; exact h1
theorem en_step {q a b : Nat} (x y : Nat) (hx : x ≤ a) (hy : y ≤ b) (h1 : en q x (y + (a - x)) = true) (h2 : en q (a - x) (b - y + x) = true) : en (q + 1) a b = true :=
  en_succ.2 (.inr ⟨x, y, hx, hy, good_iff.2 ⟨h1, h2⟩⟩)
theorem en_eight : en 8 16 16 = true := by
  have a1 : en 1 0 2 = true := en_step 0 1 (by omega) (by omega) (en_settled (by omega)) (en_settled (by omega))
  have a2 : en 2 0 4 = true := en_step 0 2 (by omega) (by omega) a1 a1
  have a3 : en 3 0 6 = true := en_step 0 3 (by omega) (by omega) (en_less a2 (by omega) (by omega)) (en_less a2 (by omega) (by omega))
  have a4 : en 4 1 5 = true := en_step 0 5 (by omega) (by omega) a3 (en_settled (by omega))
  have a5 : en 5 2 8 = true := en_step 1 4 (by omega) (by omega) a4 a4
  have a6 : en 6 4 12 = true := en_step 2 6 (by omega) (by omega) a5 a5
  have a7 : en 7 8 16 = true := en_step 4 8 (by omega) (by omega) a6 a6
  exact en_step 8 8 (by omega) (by omega) a7 a7
/-- The need. -/
def nd (a b : Nat) : Nat := ((List.range 9).find? fun q => en q a b).getD 9
theorem nd_spec {a b : Nat} (ha : a ≤ 16) (hb : b ≤ 16) : en (nd a b) a b = true ∧ nd a b ≤ 8 ∧ ∀ q, q < nd a b → en q a b = false := by
  have h8 := en_less en_eight ha hb
  unfold nd
  cases h : (List.range 9).find? fun q => en q a b with
  | none =>
    have := List.find?_eq_none.1 h 8 (by simp)
    simp [h8] at this
  | some q =>
    obtain ⟨h1, xs, ys, h2, h3⟩ := List.find?_eq_some_iff_append.1 h
    have hq : q < 9 := by have := List.mem_of_find?_eq_some h; simpa using this
    refine ⟨h1, by simp; omega, fun p hp => ?_⟩
    simp at hp
    cases he : en p a b
    · rfl
    · exfalso
      have hl : xs.length = q := by
        have e1 : (List.range 9)[xs.length]? = some q := by rw [h2]; simp
        rw [List.getElem?_range (by
          have := congrArg List.length h2
          simp at this
          omega)] at e1
        exact Option.some.inj e1
      have : p ∈ xs := by
        have e2 : (List.range 9)[p]? = some p := List.getElem?_range (by omega)
        rw [h2, List.getElem?_append_left (by omega)] at e2
        exact List.mem_of_getElem? e2
      have := h3 p this
      simp [he] at this
theorem nd_le {q a b : Nat} (ha : a ≤ 16) (hb : b ≤ 16) : en q a b = true ↔ nd a b ≤ q := by
  obtain ⟨h1, h2, h3⟩ := nd_spec ha hb
  constructor
  · intro h
    refine Nat.le_of_not_lt fun hl => ?_
    rw [h3 q hl] at h
    cases h
  · exact en_mono h1
end Go.Proofs.Ytmklpldmgmjlkaa

