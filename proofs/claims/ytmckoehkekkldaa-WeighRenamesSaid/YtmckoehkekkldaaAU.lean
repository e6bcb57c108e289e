/- Possible: how many answers there are (plain), and marks in a map. -/
import Derived.Test.YtmckoehkekkldaaY
import Derived.Test.YtmckoehkekkldaaP
import Derived.Test.YtmckoehkekkldaaU
import Derived.Test.YtmckoehkekkldaaS
import Derived.Maps.OwnSet
import Derived.DeepKeys4
namespace Go.Proofs.Ytmckoehkekkldaa
open Go.RowKit Go.Maps

/-- How many different ones a list holds. -/
def cntD {α : Type} [DecidableEq α] : List α → Nat
  | [] => 0
  | a :: l => if a ∈ l then cntD l else cntD l + 1
theorem cntD_le {α : Type} [DecidableEq α] (l : List α) : cntD l ≤ l.length := by
  induction l with
  | nil => exact Nat.le_refl _
  | cons a l ih => rw [cntD, List.length_cons]; split <;> omega
theorem cntD_nodup {α : Type} [DecidableEq α] (l : List α) : cntD l = l.length ↔ l.Nodup := by
  induction l with
  | nil => simp [cntD]
  | cons a l ih =>
    have := cntD_le l
    rw [cntD, List.length_cons, List.nodup_cons, ← ih]
    split
    · rename_i h
      constructor
      · intro h2; omega
      · intro h2; exact absurd h h2.1
    · rename_i h
      constructor
      · intro h2; exact ⟨h, by omega⟩
      · intro h2; omega
theorem cntD_app {α : Type} [DecidableEq α] (l : List α) (a : α) : cntD (l ++ [a]) = if a ∈ l then cntD l else cntD l + 1 := by
  induction l with
  | nil => simp [cntD]
  | cons b l ih =>
    rw [List.cons_append, cntD, cntD, ih]
    by_cases e : a = b
    · subst e
      simp
    · have h1 : (b ∈ l ++ [a]) ↔ b ∈ l := by simp [Ne.symm e]
      have h2 : (a ∈ b :: l) ↔ a ∈ l := by simp [e]
      by_cases h3 : b ∈ l <;> by_cases h4 : a ∈ l <;> simp [h1, h2, h3, h4]
theorem cntD_map {α β : Type} [DecidableEq α] [DecidableEq β] (f : α → β) : ∀ l : List α, (∀ a ∈ l, ∀ b ∈ l, f a = f b → a = b) → cntD (l.map f) = cntD l
  | [], _ => rfl
  | a :: l, h => by
    have hm : (f a ∈ l.map f) ↔ a ∈ l := by
      constructor
      · intro h1
        obtain ⟨b, hb, e⟩ := List.mem_map.1 h1
        have := h b (by simp [hb]) a (by simp) e
        rw [← this]
        exact hb
      · exact fun h1 => List.mem_map.2 ⟨a, h1, rfl⟩
    rw [List.map_cons, cntD, cntD, cntD_map f l (fun x hx y hy e => h x (by simp [hx]) y (by simp [hy]) e)]
    by_cases e : a ∈ l
    · rw [if_pos e, if_pos (hm.2 e)]
    · rw [if_neg e, if_neg (fun h1 => e (hm.1 h1))]
/-- The answers to a case, and all that can be. -/
def ansM (P : List Wg) (c : Int × Int) : M3 := (ansN P c.1 c.2 0, ansN P c.1 c.2 1, ansN P c.1 c.2 2)
def keysP (P : List Wg) (n : Nat) : List M3 := (0, 0, 0) :: (casesL n).map (ansM P)
theorem keysP_length (P : List Wg) (n : Nat) : (keysP P n).length = 2 * n + 1 := by simp [keysP, casesL_length]; omega
theorem keysP_next (P : List Wg) (n k : Nat) {c : Int × Int} (h : (casesL n)[k]? = some c) : (keysP P n).take (k + 1 + 1) = (keysP P n).take (k + 1) ++ [ansM P c] := by
  refine take_at ?_
  unfold keysP
  rw [List.getElem?_cons_succ, List.getElem?_map, h]
  rfl
/-- The answers of each case, and the number of the different ones. -/
def possN (P : List Wg) (n : Nat) : Nat := cntD (keysP P n)
theorem possN_le (P : List Wg) (n : Nat) : possN P n ≤ 2 * n + 1 := by
  have := cntD_le (keysP P n)
  rw [keysP_length] at this
  exact this
theorem casesL_mem {n : Nat} {c : Int × Int} (h : c ∈ casesL n) : ∃ x : Nat, x < n ∧ c.1 = (x : Int) ∧ (c.2 = 1 ∨ c.2 = -1) := by
  unfold casesL at h
  obtain ⟨x, hx, hc⟩ := List.mem_flatMap.1 h
  have hx := List.mem_range.1 hx
  simp at hc
  rcases hc with rfl | rfl
  · exact ⟨x, hx, rfl, .inr rfl⟩
  · exact ⟨x, hx, rfl, .inl rfl⟩
theorem casesL_nodup (n : Nat) : (casesL n).Nodup := by
  unfold casesL
  rw [List.Nodup, List.pairwise_flatMap]
  refine ⟨fun x _ => by simp, List.pairwise_lt_range.imp fun {a b} h => ?_⟩
  intro p hp q hq e
  simp at hp hq
  rcases hp with rfl | rfl <;> rcases hq with rfl | rfl <;> simp at e <;> omega
theorem ansM_case {P : List Wg} {n : Nat} (h : Tells P n) {c d : Int × Int} (hc : c ∈ casesL n) (hd : d ∈ casesL n) (e : ansM P c = ansM P d) : c = d := by
  obtain ⟨x, hx, e1, hy⟩ := casesL_mem hc
  obtain ⟨u, hu, e2, hv⟩ := casesL_mem hd
  obtain ⟨c1, c2⟩ := c
  obtain ⟨d1, d2⟩ := d
  simp only at e1 e2 hy hv
  subst e1 e2
  have hb := tells_case h hx hu hy hv
  by_cases hs : (x : Int) = (u : Int) ∧ c2 = d2
  · exact Prod.ext hs.1 hs.2
  · rw [badB_diff P hs, eq3_false] at hb
    unfold ansM at e
    simp only [Prod.mk.injEq] at e
    exact absurd e hb
theorem keysP_nodup (P : List Wg) (n : Nat) : (keysP P n).Nodup ↔ Tells P n := by
  unfold keysP
  rw [List.nodup_cons]
  constructor
  · rintro ⟨h1, h2⟩
    refine noBad_tells fun i j hij hj => ?_
    have ei := casesL_at n i (by omega)
    have ej := casesL_at n j (by omega)
    unfold badAt
    by_cases e : i = j
    · subst e
      rw [badB_same, eq3_false]
      intro hz
      refine h1 (List.mem_map.2 ⟨_, List.mem_of_getElem? ei, ?_⟩)
      unfold ansM
      simp only [Prod.mk.injEq]
      exact hz
    · rw [badB_diff P (by unfold lotN wayN; split <;> split <;> omega), eq3_false]
      intro hz
      have hl := casesL_length n
      have h3 := List.pairwise_iff_getElem.1 h2 i j (by rw [List.length_map]; omega) (by rw [List.length_map]; omega) (by omega)
      rw [List.getElem_map, List.getElem_map] at h3
      rw [List.getElem?_eq_getElem (by omega)] at ei ej
      rw [Option.some.inj ei, Option.some.inj ej] at h3
      apply h3
      unfold ansM
      simp only [Prod.mk.injEq]
      exact hz
  · intro h
    refine ⟨fun h1 => ?_, ?_⟩
    · obtain ⟨c, hc, e⟩ := List.mem_map.1 h1
      obtain ⟨x, hx, e1, hy⟩ := casesL_mem hc
      obtain ⟨c1, c2⟩ := c
      simp only at e1 hy
      subst e1
      have hb := tells_case h hx hx hy hy
      rw [badB_same, eq3_false] at hb
      unfold ansM at e
      simp only [Prod.mk.injEq] at e
      exact hb e
    · rw [List.Nodup, List.pairwise_map]
      refine (casesL_nodup n).imp_of_mem fun {a b} ha hb hne e => hne (ansM_case h ha hb e)
theorem possN_tells (P : List Wg) (n : Nat) : tellB P n = decide (possN P n = 2 * n + 1) := by
  have h1 := cntD_nodup (keysP P n)
  rw [keysP_length, keysP_nodup, ← tellB_iff] at h1
  rw [Bool.eq_iff_iff, decide_eq_true_iff]
  exact h1.symm
end Go.Proofs.Ytmckoehkekkldaa
