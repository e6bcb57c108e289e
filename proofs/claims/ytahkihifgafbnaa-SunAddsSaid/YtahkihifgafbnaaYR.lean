/- Plain: one more strip never makes the fewest upsets fewer; the errors of Add. -/
import Derived.Test.YtahkihifgafbnaaYQ
namespace Go.Proofs.Ytahkihifgafbnaa

/-- The errors of Add. -/
def errB (T : List (List Int)) (l : List Int) : Int := if errT T = 0 then (if rowB T.length l = true then (if T.length = 7 then 3 else 0) else 1) else errT T
theorem errB_parts {T : List (List Int)} {l : List Int} (h : errB T l = 0) : errT T = 0 ∧ rowB T.length l = true ∧ T.length ≠ 7 := by
  unfold errB at h
  by_cases h1 : errT T = 0
  · rw [if_pos h1] at h
    by_cases h2 : rowB T.length l = true
    · rw [if_pos h2] at h
      by_cases h3 : T.length = 7
      · rw [if_pos h3] at h
        cases h
      · exact ⟨h1, h2, h3⟩
    · rw [if_neg h2] at h
      cases h
  · rw [if_neg h1] at h
    exact absurd h h1
theorem rowB_at {n : Nat} {l : List Int} (h : rowB n l = true) {i : Nat} (hi : i < n) : l.getD i 0 = 0 ∨ l.getD i 0 = 1 := by
  unfold rowB at h
  rw [Bool.and_eq_true, List.all_eq_true] at h
  have hl : l.length = n := by simpa using h.2
  have hg : l[i]? = some (l.getD i 0) := by rw [List.getD_eq_getElem?_getD, List.getElem?_eq_getElem (by omega)]; rfl
  simpa using h.1 _ (List.mem_of_getElem? hg)
theorem adF_beats {T : List (List Int)} {l : List Int} {n : Nat} (h : Beats n (ent T)) (hl : rowB n l = true) : Beats (n + 1) (fun x y => adF T l n x y) := by
  refine ⟨fun i k hi hk => ?_, fun i hi => ?_, fun i k hi hk hne => ?_⟩
  · unfold adF
    by_cases e1 : i < n
    · by_cases e2 : k < n
      · rw [if_pos e1, if_pos e2]
        exact h.one i k e1 e2
      · rw [if_pos e1, if_neg e2]
        have := rowB_at hl e1
        omega
    · by_cases e2 : k < n
      · rw [if_neg e1, if_pos e2]
        exact rowB_at hl e2
      · rw [if_neg e1, if_neg e2]
        exact .inl rfl
  · unfold adF
    by_cases e1 : i < n
    · rw [if_pos e1, if_pos e1]
      exact h.self i e1
    · rw [if_neg e1, if_neg e1]
  · unfold adF
    by_cases e1 : i < n
    · by_cases e2 : k < n
      · rw [if_pos e1, if_pos e2, if_pos e2, if_pos e1]
        exact h.pair i k e1 e2 hne
      · rw [if_pos e1, if_neg e2, if_neg e2, if_pos e1]
        omega
    · by_cases e2 : k < n
      · rw [if_neg e1, if_pos e2, if_pos e2, if_neg e1]
        omega
      · omega
theorem ups_less {n m : Nat} {T B : List (List Int)} (hB : ∀ i j, i < n → j < n → ent B i j = ent T i j) : ∀ o : List Int, (∀ x ∈ o, 0 ≤ x ∧ x < (m : Int)) → upsC T (o.filter fun x => decide (x < (n : Int))) ≤ upsC B o
  | [], _ => by simp [upsC]
  | x :: r, hr => by
    have hx := hr x (by simp)
    have ih := ups_less hB r (fun y hy => hr y (by simp [hy]))
    rw [upsC]
    by_cases e : x < (n : Int)
    · rw [List.filter_cons_of_pos (by simpa using e), upsC]
      have : ((r.filter fun x => decide (x < (n : Int))).countP fun y => decide (ent T y.toNat x.toNat = 1)) ≤ r.countP fun y => decide (ent B y.toNat x.toNat = 1) := by
        rw [List.countP_filter]
        refine List.countP_mono_left fun y hy hp => ?_
        have hy' := hr y (by simp [hy])
        simp only [Bool.and_eq_true, decide_eq_true_eq] at hp ⊢
        rw [hB y.toNat x.toNat (by omega) (by omega)]
        exact hp.1
      omega
    · rw [List.filter_cons_of_neg (by simpa using e)]
      omega
theorem filter_two (p : Int → Bool) : ∀ o : List Int, o.length = (o.filter p).length + (o.filter fun x => !p x).length
  | [] => rfl
  | x :: r => by
    have ih := filter_two p r
    by_cases h : p x = true
    · rw [List.filter_cons_of_pos h, List.filter_cons_of_neg (by simp [h]), List.length_cons, List.length_cons]
      omega
    · rw [List.filter_cons_of_neg h, List.filter_cons_of_pos (by simpa using h), List.length_cons, List.length_cons]
      omega
theorem filter_ord {n : Nat} {o : List Int} (h : Ord (n + 1) o) : Ord n (o.filter fun x => decide (x < (n : Int))) := by
  have hd : (o.filter fun x => decide (x < (n : Int))).Nodup := h.dif.filter _
  have hr : ∀ x ∈ o.filter fun x => decide (x < (n : Int)), 0 ≤ x ∧ x < (n : Int) := fun x hx => by
    obtain ⟨h1, h2⟩ := List.mem_filter.1 hx
    exact ⟨(h.rng x h1).1, by simpa using h2⟩
  refine ⟨Nat.le_antisymm (len_le n _ hd hr) ?_, hr, hd⟩
  have h1 : o.length = (o.filter fun x => decide (x < (n : Int))).length + (o.filter fun x => !decide (x < (n : Int))).length := by
    exact filter_two (fun x => decide (x < (n : Int))) o
  have h2 : (o.filter fun x => !decide (x < (n : Int))).length ≤ 1 := by
    have hd2 : (o.filter fun x => !decide (x < (n : Int))).Nodup := h.dif.filter _
    have hr2 : ∀ x ∈ o.filter fun x => !decide (x < (n : Int)), x = (n : Int) := fun x hx => by
      obtain ⟨h1, h2⟩ := List.mem_filter.1 hx
      have := h.rng x h1
      simp at h2
      omega
    match hq : (o.filter fun x => !decide (x < (n : Int))) with
    | [] => simp
    | [_] => simp
    | a :: b :: r =>
      rw [hq] at hd2 hr2
      have e1 := hr2 a (by simp)
      have e2 := hr2 b (by simp)
      rw [List.nodup_cons] at hd2
      exact absurd (by rw [e1, e2]; simp) hd2.1
  have h3 := h.len
  omega
theorem ad_best {T B : List (List Int)} {l : List Int} {n : Nat} (h : Beats n (ent T)) (hl : rowB n l = true) (hB : ∀ x y, x < n + 1 → y < n + 1 → ent B x y = adF T l n x y) : (bestS T n).2 ≤ (bestS B (n + 1)).2 := by
  have hb : Beats (n + 1) (ent B) := ⟨fun i k hi hk => by rw [hB i k hi hk]; exact (adF_beats h hl).one i k hi hk, fun i hi => by rw [hB i i hi hi]; exact (adF_beats h hl).self i hi, fun i k hi hk hne => by rw [hB i k hi hk, hB k i hk hi]; exact (adF_beats h hl).pair i k hi hk hne⟩
  obtain ⟨o, ho, e⟩ := bestS_att hb (by omega)
  rw [e]
  refine Nat.le_trans (bestS_min (filter_ord ho)) (ups_less (m := n + 1) (fun i j hi hj => ?_) o ho.rng)
  rw [hB i j (by omega) (by omega)]
  unfold adF
  rw [if_pos hi, if_pos hj]
end Go.Proofs.Ytahkihifgafbnaa
