/- Records: the grades that a question names (pick). -/
import Derived.Test.YtmklpldmgmjlkaaKO
import Derived.Test.YtmklpldmgmjlkaaJG
namespace Go.Proofs.Ytmklpldmgmjlkaa
open Go.RowKit

/-- What is left to name of both kinds, and what is named, behind so many grades. -/
def pk (f : Nat → Int) (x y : Nat) : Nat → Nat × Nat × List Int
  | 0 => (x, y, [])
  | k + 1 =>
    if f k = 0 ∧ 0 < (pk f x y k).1 then ((pk f x y k).1 - 1, (pk f x y k).2.1, (pk f x y k).2.2 ++ [(k : Int)])
    else if f k = 1 ∧ 0 < (pk f x y k).2.1 then ((pk f x y k).1, (pk f x y k).2.1 - 1, (pk f x y k).2.2 ++ [(k : Int)])
    else pk f x y k
theorem pk_zero (f : Nat → Int) (x y : Nat) : pk f x y 0 = (x, y, []) := rfl
theorem pk_a {f : Nat → Int} {x y k a b : Nat} {l : List Int} (h : pk f x y k = (a, b, l)) (h0 : f k = 0) (ha : 0 < a) : pk f x y (k + 1) = (a - 1, b, l ++ [(k : Int)]) := by
  rw [pk, h, if_pos ⟨h0, ha⟩]
theorem pk_b {f : Nat → Int} {x y k a b : Nat} {l : List Int} (h : pk f x y k = (a, b, l)) (h0 : f k = 1) (hb : 0 < b) : pk f x y (k + 1) = (a, b - 1, l ++ [(k : Int)]) := by
  rw [pk, h, if_neg (fun e => by have := e.1; omega), if_pos ⟨h0, hb⟩]
theorem pk_c {f : Nat → Int} {x y k a b : Nat} {l : List Int} (h : pk f x y k = (a, b, l)) (h0 : ¬ (f k = 0 ∧ 0 < a)) (h1 : ¬ (f k = 1 ∧ 0 < b)) : pk f x y (k + 1) = (a, b, l) := by
  rw [pk, h, if_neg h0, if_neg h1]
theorem pk_len (f : Nat → Int) (x y k : Nat) : (pk f x y k).2.2.length ≤ k := by
  induction k with
  | zero => exact Nat.le_refl _
  | succ k ih =>
    rw [pk]
    split
    · simp; omega
    · split
      · simp; omega
      · omega
theorem pk_lt (f : Nat → Int) (x y k : Nat) : ∀ v ∈ (pk f x y k).2.2, 0 ≤ v ∧ v < k := by
  induction k with
  | zero => intro v hv; cases hv
  | succ k ih =>
    rw [pk]
    have up : ∀ v ∈ (pk f x y k).2.2 ++ [(k : Int)], 0 ≤ v ∧ v < ((k + 1 : Nat) : Int) := by
      intro v hv
      rcases List.mem_append.1 hv with h | h
      · have := ih v h; omega
      · obtain rfl := List.mem_singleton.1 h; omega
    split
    · exact up
    · split
      · exact up
      · intro v hv
        have := ih v hv; omega
theorem scan_snoc (below : Int) : ∀ (l : List Int) (last a : Int), scanI last below l = true → (∀ v ∈ l, v < a) → last < a → a < below → scanI last below (l ++ [a]) = true := by
  intro l
  induction l with
  | nil => intro last a _ _ h1 h2; simp [scanI]; omega
  | cons b l ih =>
    intro last a h hv h1 h2
    simp [scanI] at h ⊢
    exact ⟨h.1, ih b a h.2 (fun v hm => hv v (List.mem_cons_of_mem _ hm)) (hv b (List.mem_cons_self)) h2⟩
theorem pk_set (f : Nat → Int) (x y k : Nat) (g : Int) (hg : (k : Int) ≤ g) : setB (pk f x y k).2.2 g = true := by
  induction k with
  | zero => rfl
  | succ k ih =>
    have h := ih (by omega)
    have hl := pk_lt f x y k
    have up : setB ((pk f x y k).2.2 ++ [(k : Int)]) g = true := scan_snoc g _ _ _ h (fun v hv => (hl v hv).2) (by omega) (by omega)
    rw [pk]
    split
    · exact up
    · split
      · exact up
      · exact h
theorem hasB_app (l : List Int) (a v : Int) (h : v ≠ a) : hasB (l ++ [a]) v = hasB l v := by
  rw [Bool.eq_iff_iff, hasB_iff, hasB_iff]
  simp [h]
theorem nIn_app (L : List An) (l : List Int) (a v : Int) (k : Nat) (h : (k : Int) ≤ a) : nIn L (l ++ [a]) v k = nIn L l v k := by
  induction k with
  | zero => rfl
  | succ k ih => rw [nIn_succ, nIn_succ, ih (by omega), hasB_app l a k (by omega)]
/-- Both numbers are named as long as there are so many. -/
theorem pk_count (L : List An) (x y k : Nat) :
    (pk (cntI L) x y k).1 = x - zA L k ∧ (pk (cntI L) x y k).2.1 = y - (zB L k - zA L k) ∧
    nIn L (pk (cntI L) x y k).2.2 0 k + (pk (cntI L) x y k).1 = x ∧ nIn L (pk (cntI L) x y k).2.2 1 k + (pk (cntI L) x y k).2.1 = y := by
  induction k with
  | zero => exact ⟨rfl, rfl, by simp [nIn_zero, pk_zero], by simp [nIn_zero, pk_zero]⟩
  | succ k ih =>
    obtain ⟨i1, i2, i3, i4⟩ := ih
    have hc := (cntI_bd L k).1
    have hz := z_bd L k
    have hl := pk_lt (cntI L) x y k
    have hlen := pk_len (cntI L) x y k
    obtain ⟨p, hp⟩ : ∃ p, p = pk (cntI L) x y k := ⟨_, rfl⟩
    obtain ⟨a, b, l⟩ := p
    rw [← hp] at i1 i2 i3 i4 hl
    simp only at i1 i2 i3 i4 hl
    have hin : hasB (l ++ [(k : Int)]) (k : Int) = true := hasB_iff.2 (by simp)
    have hout : hasB l (k : Int) = false := hasB_false (fun j u hj e => by have := hl u (List.mem_of_getElem? hj); omega)
    have n0 := nIn_app L l k 0 k (Int.le_refl _)
    have n1 := nIn_app L l k 1 k (Int.le_refl _)
    rw [zA_snoc, zB_snoc]
    by_cases h0 : cntI L k = 0 ∧ 0 < a
    · rw [pk_a hp.symm h0.1 h0.2]
      simp only [nIn_succ, n0, n1, hin, h0.1]
      simp
      omega
    · by_cases h1 : cntI L k = 1 ∧ 0 < b
      · rw [pk_b hp.symm h1.1 h1.2]
        simp only [nIn_succ, n0, n1, hin, h1.1]
        simp
        omega
      · rw [pk_c hp.symm h0 h1]
        simp only [nIn_succ, hout]
        simp
        refine ⟨?_, ?_, i3, i4⟩
        · split <;> omega
        · split <;> split <;> omega
end Go.Proofs.Ytmklpldmgmjlkaa

