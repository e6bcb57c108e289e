/- Records: which of the grades that are left a set names (plain facts, for one more answer). -/
import Derived.Test.YtjcompmmjcefhaaKO
namespace Go.Proofs.Ytjcompmmjcefhaa

theorem hasB_left (L : List An) (g : Nat) (lies : Int) (k : Nat) : hasB (leftL L g lies) (k : Int) = decide (k < g ∧ cntI L k ≤ lies) := by
  rw [Bool.eq_iff_iff, hasB_iff, decide_eq_true_eq]
  unfold leftL
  rw [List.mem_map]
  constructor
  · rintro ⟨i, hi, e⟩
    obtain rfl : i = k := by omega
    rw [List.mem_filter, List.mem_range, decide_eq_true_eq] at hi
    exact hi
  · intro h
    exact ⟨k, by rw [List.mem_filter, List.mem_range, decide_eq_true_eq]; exact h, rfl⟩
/-- How many of a list's grades a set names that are in another list, and that are not. -/
def inX (S zero l : List Int) : Nat := l.countP fun v => hasB S v && hasB zero v
def inY (S zero l : List Int) : Nat := l.countP fun v => hasB S v && !hasB zero v
theorem inX_snoc (S zero l : List Int) (v : Int) : inX S zero (l ++ [v]) = inX S zero l + if (hasB S v && hasB zero v) = true then 1 else 0 := by
  unfold inX; rw [List.countP_append]; simp
theorem inY_snoc (S zero l : List Int) (v : Int) : inY S zero (l ++ [v]) = inY S zero l + if (hasB S v && !hasB zero v) = true then 1 else 0 := by
  unfold inY; rw [List.countP_append]; simp
theorem in_left (L : List An) (S : List Int) (g k : Nat) (h : k ≤ g) : inX S (leftL L g 0) (leftL L k 1) = nIn L S 0 k ∧ inY S (leftL L g 0) (leftL L k 1) = nIn L S 1 k := by
  induction k with
  | zero => exact ⟨rfl, rfl⟩
  | succ k ih =>
    obtain ⟨i1, i2⟩ := ih (by omega)
    have hc := (cntI_bd L k).1
    have hk : k < g := by omega
    rw [leftL_snoc, nIn_succ, nIn_succ]
    by_cases h1 : cntI L k ≤ 1
    · rw [if_pos h1, inX_snoc, inY_snoc, i1, i2, hasB_left]
      rcases (by omega : cntI L k = 0 ∨ cntI L k = 1) with e | e
      · rw [e]
        simp [hk]
      · rw [e]
        simp
    · rw [if_neg h1, List.append_nil, i1, i2]
      rw [if_neg (fun e => by have := e.1; omega), if_neg (fun e => by have := e.1; omega)]
      exact ⟨rfl, rfl⟩
/-- The state after one more answer, by what its set names. -/
theorem more_after (L : List An) (S : List Int) (yes : Bool) (g : Nat) :
    inX S (leftL L g 0) (leftL L g 1) ≤ zA L g ∧ inY S (leftL L g 0) (leftL L g 1) ≤ zB L g - zA L g ∧
    zA (L ++ [(S, yes)]) g = (if yes then inX S (leftL L g 0) (leftL L g 1) else zA L g - inX S (leftL L g 0) (leftL L g 1)) ∧
    zB (L ++ [(S, yes)]) g - zA (L ++ [(S, yes)]) g = (if yes then inY S (leftL L g 0) (leftL L g 1) + (zA L g - inX S (leftL L g 0) (leftL L g 1)) else (zB L g - zA L g) - inY S (leftL L g 0) (leftL L g 1) + inX S (leftL L g 0) (leftL L g 1)) := by
  obtain ⟨e1, e2⟩ := in_left L S g g (Nat.le_refl _)
  have hb := nIn_bd L S g
  have hm := more_state L S yes g
  rw [e1, e2]
  exact ⟨hb.1, hb.2, hm.1, hm.2⟩
end Go.Proofs.Ytjcompmmjcefhaa

