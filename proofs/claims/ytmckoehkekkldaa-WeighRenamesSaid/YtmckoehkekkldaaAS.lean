/- Plain: FromMarks' errors, step by step, for the document. -/
import Derived.Test.YtmckoehkekkldaaAR
import Derived.Test.YtmckoehkekkldaaAI
namespace Go.Proofs.Ytmckoehkekkldaa
open Go.RowKit

theorem errF_few {T : List (List Int)} (h : ¬ (1 ≤ (T.length : Int) ∧ (T.length : Int) ≤ 13)) : errF T = 3 := by
  unfold errF
  rw [if_neg]
  intro hh
  simp only [Bool.and_eq_true, decide_eq_true_eq] at hh
  omega
theorem errF_long {T : List (List Int)} (h : T.any longB = true) : errF T = 3 := by
  unfold errF
  rw [if_neg]
  intro hh
  simp only [Bool.and_eq_true, Bool.not_eq_true'] at hh
  exact absurd h (by rw [show (T.any longB) = (T.any fun l => decide (3 < l.length)) from rfl, hh.2]; simp)
theorem errF_first {T : List (List Int)} (h1 : 1 ≤ (T.length : Int) ∧ (T.length : Int) ≤ 13) (h2 : T.any longB = false) : (decide (1 ≤ T.length ∧ T.length ≤ 13) && !T.any fun l => decide (3 < l.length)) = true := by
  rw [show (T.any fun l => decide (3 < l.length)) = T.any longB from rfl, h2, decide_eq_true (by omega)]
  rfl
theorem errF_none {T : List (List Int)} (h1 : 1 ≤ (T.length : Int) ∧ (T.length : Int) ≤ 13) (h2 : T.any longB = false) (h3 : T.any (noneB (wide T)) = true) : errF T = 1 := by
  unfold errF
  rw [if_pos (errF_first h1 h2), if_pos]
  exact h3
theorem errF_sum {T : List (List Int)} (h1 : 1 ≤ (T.length : Int) ∧ (T.length : Int) ≤ 13) (h2 : T.any longB = false) (h3 : T.any (noneB (wide T)) = false) {j : Nat} (hj : j < wide T) (hs : colS T j T.length ≠ 0) : errF T = 5 := by
  unfold errF
  rw [if_pos (errF_first h1 h2), if_neg (by show ¬ T.any (noneB (wide T)) = true; rw [h3]; simp), if_pos]
  exact List.any_eq_true.2 ⟨j, List.mem_range.2 hj, by simpa using hs⟩
theorem errF_ok {T : List (List Int)} (h1 : 1 ≤ (T.length : Int) ∧ (T.length : Int) ≤ 13) (h2 : T.any longB = false) (h3 : T.any (noneB (wide T)) = false) (hs : ∀ j, j < wide T → colS T j T.length = 0) : errF T = 0 := by
  unfold errF
  rw [if_pos (errF_first h1 h2), if_neg (by show ¬ T.any (noneB (wide T)) = true; rw [h3]; simp), if_neg]
  simp only [List.any_eq_true, not_exists, not_and, List.mem_range]
  intro j hj
  rw [hs j hj]
  simp
theorem lotsF_snoc (f : Nat → Bool) (n : Nat) : lotsF f (n + 1) = if f n = true then lotsF f n ++ [(n : Int)] else lotsF f n := by
  unfold lotsF
  rw [List.range_succ, List.filter_append]
  by_cases h : f n = true <;> simp [h]
theorem lotsF_len (f : Nat → Bool) (n : Nat) : (lotsF f n).length ≤ n := by
  unfold lotsF
  rw [List.length_map]
  exact Nat.le_trans (List.length_filter_le _ _) (by simp)
/-- The sides of weighing j that lots before x are on. -/
def sidT (T : List (List Int)) (j x i : Nat) : List Int := if i = 0 then lotsF (fun x => entT T j x == 1) x else if i = 1 then lotsF (fun x => entT T j x == -1) x else []
theorem sidT_left {T : List (List Int)} {j x : Nat} (h : entT T j x = 1) : sidT T j (x + 1) 0 = sidT T j x 0 ++ [(x : Int)] ∧ sidT T j (x + 1) 1 = sidT T j x 1 := by
  unfold sidT
  simp [lotsF_snoc, h]
theorem sidT_right {T : List (List Int)} {j x : Nat} (h : entT T j x = -1) : sidT T j (x + 1) 1 = sidT T j x 1 ++ [(x : Int)] ∧ sidT T j (x + 1) 0 = sidT T j x 0 := by
  unfold sidT
  simp [lotsF_snoc, h]
theorem sidT_none {T : List (List Int)} {j x : Nat} (h1 : entT T j x ≠ 1) (h2 : entT T j x ≠ -1) : sidT T j (x + 1) = sidT T j x := by
  funext i
  unfold sidT
  simp [lotsF_snoc, h1, h2]
theorem sidT_zero (T : List (List Int)) (j i : Nat) : sidT T j 0 i = [] := by
  unfold sidT
  split
  · rfl
  · split <;> rfl
theorem sidT_len (T : List (List Int)) (j x i : Nat) : (sidT T j x i).length ≤ x := by
  unfold sidT
  split
  · exact lotsF_len _ _
  · split
    · exact lotsF_len _ _
    · exact Nat.zero_le _
theorem sidT_far {T : List (List Int)} {j x i : Nat} (h0 : i ≠ 0) (h1 : i ≠ 1) : sidT T j x i = [] := by
  unfold sidT
  rw [if_neg h0, if_neg h1]
theorem planT_next {T : List (List Int)} {q j : Nat} (hj : j < q) : (planT T q).take (j + 1) = (planT T q).take j ++ [(sidT T j T.length 0, sidT T j T.length 1)] := by
  rw [take_at (planT_at hj)]
  rfl
theorem planT_all (T : List (List Int)) (q : Nat) : (planT T q).take q = planT T q := List.take_of_length_le (by rw [planT_length]; omega)
theorem colS_bd {T : List (List Int)} (h : ∀ l ∈ T, sidesB l = true) (j : Nat) : ∀ n : Nat, -(n : Int) ≤ colS T j n ∧ colS T j n ≤ (n : Int)
  | 0 => by simp [colS]
  | n + 1 => by
    have := colS_bd h j n
    have := ent_bd h j n
    rw [colS]
    omega
theorem entT_at {T : List (List Int)} {j x : Nat} {l : List Int} (h : T[x]? = some l) : entT T j x = l.getD j 0 := by unfold entT; rw [rowT_at h]
theorem any_take {f : List Int → Bool} {T : List (List Int)} {k : Nat} {l : List Int} (h : (T.take k).any f = false) (hg : T[k]? = some l) (hl : f l = false) : (T.take (k + 1)).any f = false := by
  rw [take_at hg, List.any_append, h]
  simp [hl]
theorem any_hit {f : List Int → Bool} {T : List (List Int)} {k : Nat} {l : List Int} (hg : T[k]? = some l) (hl : f l = true) : T.any f = true := List.any_eq_true.2 ⟨l, List.mem_of_getElem? hg, hl⟩
theorem any_all {f : List Int → Bool} {T : List (List Int)} {k : Nat} (hk : T.length = k) (h : (T.take k).any f = false) : T.any f = false := by
  rw [List.take_of_length_le (by omega)] at h
  exact h
theorem wide_at {T : List (List Int)} {l : List Int} (h : T[0]? = some l) : wide T = l.length := by unfold wide; rw [rowT_at h]
end Go.Proofs.Ytmckoehkekkldaa
