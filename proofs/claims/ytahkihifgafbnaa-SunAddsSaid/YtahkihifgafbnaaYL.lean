/- Plain: tables told by a function; a comparison switched. -/
import Derived.Test.YtahkihifgafbnaaYK
namespace Go.Proofs.Ytahkihifgafbnaa
open Go.RowKit

/-- The table of f. -/
def gridL (f : Nat → Nat → Int) (n : Nat) : List (List Int) := (List.range n).map fun a => (List.range n).map fun b => f a b
theorem gridL_len (f : Nat → Nat → Int) (n : Nat) : (gridL f n).length = n := by simp [gridL]
theorem gridL_at {f : Nat → Nat → Int} {n i : Nat} {r : List Int} (h : (gridL f n)[i]? = some r) : i < n ∧ r = (List.range n).map fun b => f i b := by
  have hi := (List.getElem?_eq_some_iff.1 h).1
  rw [gridL_len] at hi
  unfold gridL at h
  rw [List.getElem?_map, List.getElem?_range hi] at h
  simp at h
  exact ⟨hi, h.symm⟩
theorem gridL_ent {f : Nat → Nat → Int} {n a b : Nat} (ha : a < n) (hb : b < n) : ent (gridL f n) a b = f a b := by
  unfold ent gridL
  rw [List.getElem?_map, List.getElem?_range ha]
  simp [hb]
theorem gridL_err {f : Nat → Nat → Int} {n : Nat} (h : Beats n f) (h1 : 1 ≤ n) (h7 : n ≤ 7) : errT (gridL f n) = 0 :=
  errT_right (gridL_len f n) h1 h7 (fun r hr => by
    obtain ⟨i, hi⟩ := List.getElem?_of_mem hr
    rw [(gridL_at hi).2]
    simp) ⟨fun i k hi hk => by rw [gridL_ent hi hk]; exact h.one i k hi hk, fun i hi => by rw [gridL_ent hi hi]; exact h.self i hi, fun i k hi hk hne => by rw [gridL_ent hi hk, gridL_ent hk hi]; exact h.pair i k hi hk hne⟩
theorem SqG.gridT {base n : Nat} {w : World} {v : Value} {f : Nat → Nat → Int} (h : SqG base w v n n f) (h7 : n ≤ 7) : OwnT base w v (gridL f n) := by
  obtain ⟨bs, cs, h⟩ := h
  refine h.tab (gridL_len f n) fun i r hi => ?_
  obtain ⟨hin, rfl⟩ := gridL_at hi
  refine ⟨by simp, by unfold maxLen; simp <;> omega, fun j x hj => ?_⟩
  simp only [List.getElem?_map, Option.map_eq_some_iff] at hj
  obtain ⟨q, hq, rfl⟩ := hj
  have hjl := (List.getElem?_eq_some_iff.1 hq).1
  rw [List.length_range] at hjl
  rw [List.getElem?_range hjl] at hq
  injection hq with hq
  rw [hq]
theorem SqG.square {base n : Nat} {w : World} {v : Value} {T : List (List Int)} {f : Nat → Nat → Int} (h : SqG base w v n n f) (hT : Square T n) (h7 : n ≤ 7) (hf : ∀ a b, a < n → b < n → f a b = ent T a b) : OwnT base w v T := by
  obtain ⟨bs, cs, h⟩ := h
  refine h.tab hT.1 fun i r hi => ?_
  have hin := (List.getElem?_eq_some_iff.1 hi).1
  rw [hT.1] at hin
  have hl := hT.2 r (List.mem_of_getElem? hi)
  refine ⟨hl, by unfold maxLen; omega, fun j x hj => ?_⟩
  have hjl := (List.getElem?_eq_some_iff.1 hj).1
  rw [hl] at hjl
  obtain ⟨r2, q1, -, q3⟩ := hT.at_ hin hjl
  rw [hi] at q1
  injection q1 with q1
  subst q1
  rw [hj] at q3
  injection q3 with q3
  rw [hf i j hin hjl, q3]
/-- The answers f with the comparison of a and b switched. -/
def swF (f : Nat → Nat → Int) (a b x y : Nat) : Int := if (x = a ∧ y = b) ∨ (x = b ∧ y = a) then f y x else f x y
theorem swF_two (f : Nat → Nat → Int) (a b x y : Nat) : swF (fun x y => swF f a b x y) b a x y = f x y := by
  unfold swF
  by_cases h : (x = a ∧ y = b) ∨ (x = b ∧ y = a)
  · rw [if_pos (by omega)]
    show (if _ then _ else _) = _
    rw [if_pos (by omega)]
  · rw [if_neg (by omega)]
    show (if _ then _ else _) = _
    rw [if_neg (by omega)]
theorem swF_beats {f : Nat → Nat → Int} {n a b : Nat} (h : Beats n f) (hab : a ≠ b) : Beats n (fun x y => swF f a b x y) := by
  refine ⟨fun i k hi hk => ?_, fun i hi => ?_, fun i k hi hk hne => ?_⟩
  · unfold swF
    split
    · exact h.one k i hk hi
    · exact h.one i k hi hk
  · unfold swF
    rw [if_neg (by omega)]
    exact h.self i hi
  · unfold swF
    by_cases e : (i = a ∧ k = b) ∨ (i = b ∧ k = a)
    · rw [if_pos e, if_pos (by omega)]
      exact h.pair k i hk hi (Ne.symm hne)
    · rw [if_neg e, if_neg (by omega)]
      exact h.pair i k hi hk hne
theorem countP_off {p q : Int → Bool} {b : Int} : ∀ {r : List Int}, r.Nodup → (∀ y ∈ r, y ≠ b → p y = q y) → r.countP p ≤ r.countP q + 1
  | [], _, _ => by simp
  | x :: r, hn, h => by
    rw [List.nodup_cons] at hn
    rw [List.countP_cons, List.countP_cons]
    by_cases e : x = b
    · have : r.countP p = r.countP q := List.countP_congr fun y hy => by rw [h y (by simp [hy]) (fun e2 => hn.1 (by rw [e, ← e2]; exact hy))]
      rw [this]
      by_cases hp : p x = true <;> by_cases hq : q x = true <;> simp [hp, hq] <;> omega
    · have ih := countP_off hn.2 (fun y hy => h y (by simp [hy]))
      rw [h x (by simp) e]
      omega
/-- S answers as T but for the comparison of a and b. -/
def SwR (n a b : Nat) (T S : List (List Int)) : Prop := ∀ x y, x < n → y < n → ent S x y = swF (ent T) a b x y
theorem SwR.symm {n a b : Nat} {T S : List (List Int)} (h : SwR n a b T S) : SwR n a b S T := fun x y hx hy => by
  have e1 := h x y hx hy
  have e2 := h y x hy hx
  unfold swF at e1 e2 ⊢
  by_cases e : (x = a ∧ y = b) ∨ (x = b ∧ y = a)
  · rw [if_pos e]
    rw [if_pos (by omega)] at e2
    exact e2.symm
  · rw [if_neg e]
    rw [if_neg e] at e1
    exact e1.symm
theorem SwR.other {n a b x y : Nat} {T S : List (List Int)} (h : SwR n a b T S) (hx : x < n) (hy : y < n) (hne : ¬ ((x = a ∧ y = b) ∨ (x = b ∧ y = a))) : ent S x y = ent T x y := by
  rw [h x y hx hy]
  unfold swF
  rw [if_neg hne]
theorem SwR.out {n a b : Nat} {T S : List (List Int)} (h : SwR n a b T S) : ∀ l : List Int, (∀ x ∈ l, 0 ≤ x ∧ x < (n : Int)) → ((a : Int) ∉ l ∨ (b : Int) ∉ l) → upsC S l = upsC T l
  | [], _, _ => rfl
  | x :: r, hr, ho => by
    rw [upsC, upsC, SwR.out h r (fun y hy => hr y (by simp [hy])) (ho.imp (fun h hm => h (by simp [hm])) (fun h hm => h (by simp [hm])))]
    congr 1
    refine List.countP_congr fun y hy => ?_
    have hx := hr x (by simp)
    have hy' := hr y (by simp [hy])
    rw [h.other (x := y.toNat) (y := x.toNat) (by omega) (by omega) (fun e => by
      have h1 : x ∈ x :: r := by simp
      have h2 : y ∈ x :: r := by simp [hy]
      rcases e with ⟨e1, e2⟩ | ⟨e1, e2⟩
      · have f1 : y = (a : Int) := by omega
        have f2 : x = (b : Int) := by omega
        rcases ho with ho | ho
        · exact ho (f1 ▸ h2)
        · exact ho (f2 ▸ h1)
      · have f1 : y = (b : Int) := by omega
        have f2 : x = (a : Int) := by omega
        rcases ho with ho | ho
        · exact ho (f2 ▸ h1)
        · exact ho (f1 ▸ h2))]
theorem SwR.one {n a b : Nat} {T S : List (List Int)} (h : SwR n a b T S) : ∀ l : List Int, (∀ x ∈ l, 0 ≤ x ∧ x < (n : Int)) → l.Nodup → upsC S l ≤ upsC T l + 1
  | [], _, _ => by simp [upsC]
  | x :: r, hr, hn => by
    rw [List.nodup_cons] at hn
    have hx := hr x (by simp)
    have hrr : ∀ y ∈ r, 0 ≤ y ∧ y < (n : Int) := fun y hy => hr y (by simp [hy])
    rw [upsC, upsC]
    by_cases ea : x = (a : Int)
    · rw [h.out r hrr (.inl (ea ▸ hn.1))]
      have := countP_off (p := fun y => decide (ent S y.toNat x.toNat = 1)) (q := fun y => decide (ent T y.toNat x.toNat = 1)) (b := (b : Int)) hn.2 (fun y hy hne => by
        have hy' := hrr y hy
        have hyx : y ≠ x := fun e => hn.1 (e ▸ hy)
        rw [h.other (x := y.toNat) (y := x.toNat) (by omega) (by omega) (by omega)])
      omega
    · by_cases eb : x = (b : Int)
      · rw [h.out r hrr (.inr (eb ▸ hn.1))]
        have := countP_off (p := fun y => decide (ent S y.toNat x.toNat = 1)) (q := fun y => decide (ent T y.toNat x.toNat = 1)) (b := (a : Int)) hn.2 (fun y hy hne => by
          have hy' := hrr y hy
          have hyx : y ≠ x := fun e => hn.1 (e ▸ hy)
          rw [h.other (x := y.toNat) (y := x.toNat) (by omega) (by omega) (by omega)])
        omega
      · have ih := SwR.one h r hrr hn.2
        have : (r.countP fun y => decide (ent S y.toNat x.toNat = 1)) = r.countP fun y => decide (ent T y.toNat x.toNat = 1) := List.countP_congr fun y hy => by
          have hy' := hrr y hy
          rw [h.other (x := y.toNat) (y := x.toNat) (by omega) (by omega) (by omega)]
        omega
theorem SwR.best {n a b : Nat} {T S : List (List Int)} (h : SwR n a b T S) (hb : Beats n (ent T)) (h1 : 1 ≤ n) : (bestS S n).2 ≤ (bestS T n).2 + 1 := by
  obtain ⟨l, ho, e⟩ := bestS_att hb h1
  rw [e]
  exact Nat.le_trans (bestS_min ho) (h.one l ho.rng ho.dif)
/-- The errors of Switch. -/
def errW (T : List (List Int)) (a b : Int) : Int := if errT T = 0 then (if (0 ≤ a ∧ a < (T.length : Int)) ∧ 0 ≤ b ∧ b < (T.length : Int) then (if a = b then 1 else 0) else 4) else errT T
end Go.Proofs.Ytahkihifgafbnaa
