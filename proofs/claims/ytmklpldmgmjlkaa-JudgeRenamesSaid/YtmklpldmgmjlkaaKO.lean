/- Records: what one more answer does to the state (plain facts). -/
import Derived.Test.YtmklpldmgmjlkaaKM
namespace Go.Proofs.Ytmklpldmgmjlkaa

/-- How many of the first k grades have so many answers against them and are named. -/
def nIn (L : List An) (set : List Int) (v : Int) : Nat → Nat
  | 0 => 0
  | k + 1 => nIn L set v k + if cntI L k = v ∧ hasB set (k : Int) = true then 1 else 0
theorem nIn_zero (L : List An) (set : List Int) (v : Int) : nIn L set v 0 = 0 := rfl
theorem nIn_succ (L : List An) (set : List Int) (v : Int) (k : Nat) : nIn L set v (k + 1) = nIn L set v k + if cntI L k = v ∧ hasB set (k : Int) = true then 1 else 0 := rfl
theorem nIn_bd (L : List An) (set : List Int) (k : Nat) : nIn L set 0 k ≤ zA L k ∧ nIn L set 1 k ≤ zB L k - zA L k := by
  induction k with
  | zero => exact ⟨Nat.le_refl _, Nat.le_refl _⟩
  | succ k ih =>
    have h := (cntI_bd L k).1
    have hz := z_bd L k
    rw [nIn_succ, nIn_succ, zA_snoc, zB_snoc]
    rcases (by omega : cntI L k = 0 ∨ cntI L k = 1 ∨ 2 ≤ cntI L k) with e | e | e
    · rw [e, if_pos (show (0 : Int) ≤ 0 by omega), if_pos (show (0 : Int) ≤ 1 by omega), if_neg (show ¬ ((0 : Int) = 1 ∧ hasB set (k : Int) = true) from fun k => by omega)]
      split <;> omega
    · rw [e, if_neg (show ¬ (1 : Int) ≤ 0 by omega), if_pos (show (1 : Int) ≤ 1 by omega), if_neg (show ¬ ((1 : Int) = 0 ∧ hasB set (k : Int) = true) from fun k => by omega)]
      split <;> omega
    · rw [if_neg (show ¬ cntI L k ≤ 0 by omega), if_neg (show ¬ cntI L k ≤ 1 by omega), if_neg (show ¬ (cntI L k = 0 ∧ hasB set (k : Int) = true) from fun k => by omega), if_neg (show ¬ (cntI L k = 1 ∧ hasB set (k : Int) = true) from fun k => by omega)]
      omega
/-- The state after one more answer. -/
theorem more_state (L : List An) (set : List Int) (yes : Bool) (k : Nat) :
    zA (L ++ [(set, yes)]) k = (if yes then nIn L set 0 k else zA L k - nIn L set 0 k) ∧
    zB (L ++ [(set, yes)]) k - zA (L ++ [(set, yes)]) k = (if yes then nIn L set 1 k + (zA L k - nIn L set 0 k) else (zB L k - zA L k) - nIn L set 1 k + nIn L set 0 k) := by
  induction k with
  | zero => cases yes <;> exact ⟨rfl, rfl⟩
  | succ k ih =>
    have h := (cntI_bd L k).1
    have hz := z_bd L k
    have hz2 := z_bd (L ++ [(set, yes)]) k
    have hb := nIn_bd L set k
    have hc : cntI (L ++ [(set, yes)]) k = cntI L k + if ag (set, yes) (k : Int) = true then 1 else 0 := cntI_snoc L (set, yes) k
    have hag : ag (set, yes) (k : Int) = (yes != hasB set (k : Int)) := rfl
    rw [zA_snoc, zB_snoc, zA_snoc, zB_snoc, nIn_succ, nIn_succ, hc, hag]
    generalize cntI L k = v at *
    generalize hasB set (k : Int) = m at *
    generalize zA (L ++ [(set, yes)]) k = A' at *
    generalize zB (L ++ [(set, yes)]) k = B' at *
    generalize zA L k = A at *
    generalize zB L k = B at *
    generalize nIn L set 0 k = x at *
    generalize nIn L set 1 k = y at *
    clear hc hag
    cases yes <;> cases m <;> simp at ih ⊢
    all_goals
      rcases (by omega : v = 0 ∨ v = 1 ∨ 2 ≤ v) with e | e | e
      · subst e; simp; omega
      · subst e; simp; omega
      · simp only [show ¬ v = 0 by omega, show ¬ v = 1 by omega, show ¬ v ≤ 0 by omega, show ¬ v ≤ 1 by omega, show ¬ v + 1 ≤ 0 by omega, show ¬ v + 1 ≤ 1 by omega, if_false, Nat.add_zero]
        omega
end Go.Proofs.Ytmklpldmgmjlkaa

