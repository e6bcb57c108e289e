/- What the program and the document count, as sums. -/
import Derived.Test.YtahkihifgafbnaaY
import Derived.Test.YtahkihifgafbnaaK
import Derived.Test.YtahkihifgafbnaaJ
namespace Go.Proofs.Ytahkihifgafbnaa
open Go.RowKit

theorem beats_of {T : List (List Int)} {n : Nat} (hn : T.length = n) (hE : errT T = 0) : Beats n (ent T) := by
  obtain ⟨_, hrw, hdg⟩ := errT_zero hE
  rw [hn] at hrw hdg
  have hs := rowsB_square hn hrw
  have h01 := fun a b (ha : a < n) (hb : b < n) => rows01 hs hrw ha hb
  have hd : ∀ a, a < n → ent T a a = 0 ∧ ∀ b, b < a → ent T a b ≠ ent T b a := by
    intro a ha
    have h1 := List.all_eq_true.1 hdg a (List.mem_range.2 ha)
    simp only [Bool.and_eq_true, decide_eq_true_eq] at h1
    refine ⟨h1.1, fun b hb => ?_⟩
    have h2 := List.all_eq_true.1 h1.2 b (List.mem_range.2 hb)
    simpa using h2
  refine ⟨h01, fun i hi => (hd i hi).1, fun i k hi hk hne => ?_⟩
  have e1 := h01 i k hi hk
  have e2 := h01 k i hk hi
  rcases Nat.lt_or_gt_of_ne hne with h | h
  · have := (hd k hk).2 i h
    omega
  · have := (hd i hi).2 k h
    omega
theorem outTo_sum {T : List (List Int)} {n s : Nat} (h : Beats n (ent T)) (hs : s < n) : ∀ k, k ≤ n → ((outTo T n s k).length : Int) = sumTo (ent T s) k
  | 0, _ => by rw [outTo_zero]; rfl
  | k + 1, hk => by
    rw [outTo_next (by omega), List.length_append, sumTo, Int.natCast_add, outTo_sum h hs k (by omega)]
    rcases h.one s k hs (by omega) with e | e <;> simp [e]
theorem winN_sum {T : List (List Int)} {n s : Nat} (h : Beats n (ent T)) (hs : s < n) : winN T n s = winS (ent T) n s := outTo_sum h hs n (Nat.le_refl _)
theorem thirdN_sum {T : List (List Int)} {n a b : Nat} (h : Beats n (ent T)) (ha : a < n) (hb : b < n) : ∀ k, k ≤ n → ((thirdN T n a b (outTo T n b k) : Nat) : Int) = sumTo (fun c => ent T b c * ent T c a * lowB a b c) k
  | 0, _ => by rw [outTo_zero]; rfl
  | k + 1, hk => by
    have ih := thirdN_sum h ha hb k (by omega)
    rw [outTo_next (by omega), sumTo, ← ih]
    rcases h.one b k hb (by omega) with e | e
    · rw [e, if_neg (by decide), List.append_nil]
      simp
    · rw [e, if_pos rfl, thirdN_snoc, Int.natCast_add]
      congr 1
      rcases h.one k a (by omega) ha with e2 | e2
      · simp [e2]
      · unfold lowB
        by_cases h3 : a < b ∧ a < k
        · rw [if_pos h3, if_pos (by simp [e2]; omega), e2]
          rfl
        · rw [if_neg h3, if_neg (by simp [e2]; omega), Int.mul_zero]
          rfl
theorem secondN_sum {T : List (List Int)} {n a : Nat} (h : Beats n (ent T)) (ha : a < n) : ∀ k, k ≤ n → ((secondN T n a (outTo T n a k) : Nat) : Int) = sumTo (fun b => ent T a b * sumTo (fun c => ent T b c * ent T c a * lowB a b c) n) k
  | 0, _ => by rw [outTo_zero]; rfl
  | k + 1, hk => by
    have ih := secondN_sum h ha k (by omega)
    rw [outTo_next (by omega), sumTo, ← ih]
    rcases h.one a k ha (by omega) with e | e
    · rw [e, if_neg (by decide), List.append_nil]
      simp
    · rw [e, if_pos rfl, secondN_snoc, Int.natCast_add, Int.one_mul, ← thirdN_sum h ha (b := k) (by omega) n (Nat.le_refl _)]
      rfl
theorem ringTo_sum {T : List (List Int)} {n : Nat} (h : Beats n (ent T)) : ∀ k, k ≤ n → ((ringTo T n k : Nat) : Int) = sumTo (fun a => sumTo (fun b => ent T a b * sumTo (fun c => ent T b c * ent T c a * lowB a b c) n) n) k
  | 0, _ => rfl
  | k + 1, hk => by
    rw [ringTo_succ, sumTo, ← ringTo_sum h k (by omega), Int.natCast_add, ← secondN_sum h (a := k) (by omega) n (Nat.le_refl _)]
    rfl
theorem ringTo_ring {T : List (List Int)} {n : Nat} (h : Beats n (ent T)) : ((ringTo T n n : Nat) : Int) = ringS (ent T) n := by
  rw [ringTo_sum h n (Nat.le_refl _)]
  unfold ringS
  refine sumTo_congr n fun a _ => sumTo_congr n fun b _ => ?_
  rw [← sumTo_mul]
  refine sumTo_congr n fun c _ => ?_
  rw [← Int.mul_assoc, ← Int.mul_assoc]
theorem tri1_trip (T : List (List Int)) (n : Nat) : tri1 T n n = tripS (ent T) n := rfl
theorem ringTo_tri {T : List (List Int)} {n : Nat} (h : Beats n (ent T)) : tri1 T n n / 3 = ((ringTo T n n : Nat) : Int) := by
  rw [tri1_trip, h.trip3, ringTo_ring h]
  omega
theorem sumI_to {T : List (List Int)} {i : Nat} {r : List Int} (hg : T[i]? = some r) : ∀ k, k ≤ r.length → sumI (r.take k) = sumTo (ent T i) k
  | 0, _ => rfl
  | k + 1, hk => by
    have e : r[k]? = some (ent T i k) := by
      unfold ent
      rw [hg, Option.getD_some, List.getElem?_eq_getElem (by omega)]
      rfl
    rw [take_at e, sumI_snoc, sumI_to hg k (by omega)]
    rfl
/-- The wins, as a list. -/
def winL (T : List (List Int)) : List Int := (List.range T.length).map (winN T T.length)
theorem winL_sum {T : List (List Int)} (hE : errT T = 0) : T.map sumI = winL T := by
  obtain ⟨_, hrw, _⟩ := errT_zero hE
  have hs := rowsB_square rfl hrw
  have hB := beats_of rfl hE
  apply List.ext_getElem?
  intro i
  by_cases hi : i < T.length
  · have e : T[i]? = some T[i] := List.getElem?_eq_getElem hi
    have hl := hs.2 _ (List.mem_of_getElem? e)
    unfold winL
    rw [List.getElem?_map, e, List.getElem?_map, List.getElem?_range hi]
    simp only [Option.map_some]
    congr 1
    have h := sumI_to e T.length (by omega)
    rw [List.take_of_length_le (by omega)] at h
    rw [h, winN_sum hB hi]
    rfl
  · rw [List.getElem?_eq_none (by rw [List.length_map]; omega), List.getElem?_eq_none (by simp [winL]; omega)]
theorem winL_len (T : List (List Int)) : (winL T).length = T.length := by simp [winL]
theorem winL_at {T : List (List Int)} {i : Nat} (hi : i < T.length) : (winL T)[i]? = some (winN T T.length i) := by simp [winL, hi]
/-- What is left behind the first k strips' pairs. -/
def remN (T : List (List Int)) (k : Nat) : Int := leftS (ent T) T.length k
theorem remN_next {T : List (List Int)} (hE : errT T = 0) {k : Nat} (hk : k < T.length) : remN T (k + 1) = remN T k - winN T T.length k * (winN T T.length k - 1) / 2 := by
  unfold remN
  rw [leftS, winN_sum (beats_of rfl hE) hk]
theorem remN_all {T : List (List Int)} (hE : errT T = 0) : remN T T.length = ((ringTo T T.length T.length : Nat) : Int) := by
  have h := beats_of rfl hE
  rw [ringTo_ring h]
  exact h.left (errT_zero hE).1.2
theorem winN_bd {T : List (List Int)} {n s : Nat} : 0 ≤ winN T n s ∧ winN T n s ≤ n := by
  have := outTo_len T n s n
  unfold winN outL
  omega
theorem remN_bd {T : List (List Int)} (hE : errT T = 0) : ∀ k : Nat, k ≤ T.length → remN T 0 - 21 * k ≤ remN T k ∧ remN T k ≤ remN T 0
  | 0, _ => by omega
  | k + 1, hk => by
    have ih := remN_bd hE k (by omega)
    have h7 := (errT_zero hE).1.2
    rw [remN_next hE (by omega)]
    have hb := winN_bd (T := T) (n := T.length) (s := k)
    have : winN T T.length k = 0 ∨ winN T T.length k = 1 ∨ winN T T.length k = 2 ∨ winN T T.length k = 3 ∨ winN T T.length k = 4 ∨ winN T T.length k = 5 ∨ winN T T.length k = 6 ∨ winN T T.length k = 7 := by omega
    rcases this with e | e | e | e | e | e | e | e <;> rw [e] <;> omega
theorem remN_start {T : List (List Int)} (hE : errT T = 0) : 0 ≤ remN T 0 ∧ remN T 0 ≤ 35 := by
  have h7 := (errT_zero hE).1
  show 0 ≤ ((T.length : Nat) : Int) * (T.length - 1) * (T.length - 2) / 6 ∧ ((T.length : Nat) : Int) * (T.length - 1) * (T.length - 2) / 6 ≤ 35
  generalize T.length = n at *
  have : n = 1 ∨ n = 2 ∨ n = 3 ∨ n = 4 ∨ n = 5 ∨ n = 6 ∨ n = 7 := by omega
  rcases this with rfl | rfl | rfl | rfl | rfl | rfl | rfl <;> decide
end Go.Proofs.Ytahkihifgafbnaa
