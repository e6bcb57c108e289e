/- Plain: upsets of orders; the search finds the fewest. -/
import Derived.Test.YtahkihifgafbnaaYA
import Derived.Test.YtahkihifgafbnaaR
namespace Go.Proofs.Ytahkihifgafbnaa
open Go.RowKit

/-- Pairs of an order in which the later one beats the former one. -/
def upsC (T : List (List Int)) : List Int → Nat
  | [] => 0
  | x :: r => (r.countP fun y => decide (ent T y.toNat x.toNat = 1)) + upsC T r
theorem upsC_snoc (T : List (List Int)) (x : Int) : ∀ l, upsC T (l ++ [x]) = upsC T l + beatN T x.toNat l
  | [] => by simp [upsC, beatN]
  | a :: l => by
    rw [List.cons_append, upsC, upsC, upsC_snoc T x l, List.countP_append]
    unfold beatN
    rw [List.countP_cons]
    by_cases h : ent T x.toNat a.toNat = 1
    · simp [h]
      omega
    · simp [h]
      omega
theorem upsC_app (T : List (List Int)) (l : List Int) : ∀ r, upsC T l ≤ upsC T (l ++ r) := by
  intro r
  induction r generalizing l with
  | nil => simp
  | cons x r ih =>
    have h := ih (l ++ [x])
    rw [List.append_assoc, upsC_snoc] at h
    have e : [x] ++ r = x :: r := rfl
    rw [e] at h
    omega
/-- An order of all strips. -/
structure Ord (n : Nat) (l : List Int) : Prop where
  len : l.length = n
  rng : ∀ x ∈ l, 0 ≤ x ∧ x < n
  dif : l.Nodup
instance (n : Nat) (l : List Int) : Decidable (Ord n l) := decidable_of_iff (l.length = n ∧ (∀ x ∈ l, 0 ≤ x ∧ x < n) ∧ l.Nodup) ⟨fun h => ⟨h.1, h.2.1, h.2.2⟩, fun h => ⟨h.len, h.rng, h.dif⟩⟩
theorem Ord.rev {n : Nat} {l : List Int} (h : Ord n l) : Ord n l.reverse := ⟨by rw [List.length_reverse]; exact h.len, fun x hx => h.rng x (List.mem_reverse.1 hx), (List.reverse_perm l).nodup_iff.2 h.dif⟩
theorem upsC_pair {T : List (List Int)} {n : Nat} (h : Beats n (ent T)) : ∀ l : List Int, (∀ x ∈ l, 0 ≤ x ∧ x < n) → l.Nodup → 2 * (upsC T l + upsC T l.reverse) = l.length * (l.length - 1)
  | [], _, _ => rfl
  | x :: r, hr, hn => by
    rw [List.nodup_cons] at hn
    have ih := upsC_pair h r (fun y hy => hr y (by simp [hy])) hn.2
    have hx := hr x (by simp)
    have hc : (r.countP fun y => decide (ent T y.toNat x.toNat = 1)) + (r.countP fun y => decide (ent T x.toNat y.toNat = 1)) = r.length := by
      have hnr := hn.1
      have hrr : ∀ y ∈ r, 0 ≤ y ∧ y < n := fun y hy => hr y (by simp [hy])
      clear ih hn hr
      induction r with
      | nil => rfl
      | cons y r ih =>
        have hy := hrr y (by simp)
        have hne : y.toNat ≠ x.toNat := fun e => hnr (by rw [show x = y by omega]; simp)
        have hp := h.pair y.toNat x.toNat (by omega) (by omega) hne
        have h1 := h.one y.toNat x.toNat (by omega) (by omega)
        have ih := ih (fun hm => hnr (by simp [hm])) (fun z hz => hrr z (by simp [hz]))
        rw [List.countP_cons, List.countP_cons, List.length_cons]
        rcases h1 with e | e
        · rw [show ent T x.toNat y.toNat = 1 by omega, e]
          simp
          omega
        · rw [show ent T x.toNat y.toNat = 0 by omega, e]
          simp
          omega
    rw [List.reverse_cons, upsC_snoc, upsC, List.length_cons]
    have hb : beatN T x.toNat r.reverse = r.countP fun y => decide (ent T x.toNat y.toNat = 1) := by
      unfold beatN
      exact List.countP_reverse
    rw [hb]
    have e : (r.length + 1) * (r.length + 1 - 1) = r.length * (r.length - 1) + 2 * r.length := by
      cases hl : r.length with
      | zero => rfl
      | succ k =>
        simp only [Nat.add_sub_cancel]
        rw [Nat.add_mul, Nat.mul_comm (k + 1) (k + 1), Nat.mul_comm 2]
        have : (k + 1) * (k + 1) = (k + 1) * k + (k + 1) := Nat.mul_succ _ _
        omega
    rw [e, ← ih]
    omega
theorem placeS_le (T : List (List Int)) (n : Nat) : ∀ d order ups st, (placeS T n d order ups st).2 ≤ st.2
  | 0, order, ups, st => by
    rw [placeS]
    split
    · exact Nat.le_refl _
    · simp only
      omega
  | d + 1, order, ups, st => by
    rw [placeS]
    split
    · exact Nat.le_refl _
    · have : ∀ (l : List (Fin n)) (st : List Int × Nat), (l.foldl (fun st x => placeS T n d (order ++ [(x.val : Int)]) (ups + beatN T x.val order) st) st).2 ≤ st.2 := by
        intro l
        induction l with
        | nil => intro st; exact Nat.le_refl _
        | cons x l ih =>
          intro st
          exact Nat.le_trans (ih _) (placeS_le T n d _ _ st)
      exact this _ st
theorem placeS_fold (T : List (List Int)) (n d ups : Nat) (order : List Int) : ∀ (l : List (Fin n)) (st : List Int × Nat), (l.foldl (fun st x => placeS T n d (order ++ [(x.val : Int)]) (ups + beatN T x.val order) st) st).2 ≤ st.2
  | [], _ => Nat.le_refl _
  | _ :: l, st => Nat.le_trans (placeS_fold T n d ups order l _) (placeS_le T n d _ _ st)
theorem mem_rest {m : Nat} {l : List Int} (x : Fin m) : x ∈ restO m l ↔ (x.val : Int) ∉ l := by
  unfold restO iterTo outP
  rw [List.take_of_length_le (by simp), List.mem_filter]
  simp only [List.mem_finRange, true_and, Bool.not_eq_true']
  unfold hasB
  rw [Bool.eq_false_iff, Ne, List.contains_iff_mem]
theorem placeS_min (T : List (List Int)) (n : Nat) : ∀ d order st r, r.length = d → (∀ x ∈ r, 0 ≤ x ∧ x < (n : Int)) → (order ++ r).Nodup → (placeS T n d order (upsC T order) st).2 ≤ upsC T (order ++ r)
  | 0, order, st, r, hl, _, _ => by
    rw [List.eq_nil_of_length_eq_zero hl, List.append_nil, placeS]
    split
    · assumption
    · exact Nat.le_refl _
  | d + 1, order, st, x :: r, hl, hr, hn => by
    rw [placeS]
    split
    · rename_i h
      exact Nat.le_trans h (upsC_app T order _)
    · have hx := hr x (by simp)
      have hxo : x ∉ order := fun hm => by
        rw [List.nodup_append] at hn
        exact hn.2.2 x hm x (by simp) rfl
      obtain ⟨y, hy⟩ : ∃ y : Fin n, (y.val : Int) = x := ⟨⟨x.toNat, by omega⟩, by simp; omega⟩
      have hmem : y ∈ restO n order := (mem_rest y).2 (by rw [hy]; exact hxo)
      obtain ⟨a, b, hab⟩ := List.append_of_mem hmem
      rw [hab, List.foldl_append, List.foldl_cons]
      refine Nat.le_trans (placeS_fold T n d _ order b _) ?_
      have e : upsC T order + beatN T y.val order = upsC T (order ++ [x]) := by
        rw [upsC_snoc, ← hy]
        simp
      rw [e, hy]
      have e2 : order ++ x :: r = (order ++ [x]) ++ r := by simp
      rw [e2] at hn ⊢
      exact placeS_min T n d (order ++ [x]) _ r (by simpa using hl) (fun z hz => hr z (by simp [hz])) hn
theorem bestS_min {T : List (List Int)} {n : Nat} {l : List Int} (h : Ord n l) : (bestS T n).2 ≤ upsC T l := by
  have := placeS_min T n n [] ([], n * n) l h.len h.rng (by simpa using h.dif)
  exact this
theorem upsC_le (T : List (List Int)) : ∀ l : List Int, upsC T l ≤ l.length * l.length
  | [] => Nat.le_refl _
  | x :: r => by
    have ih := upsC_le T r
    have := List.countP_le_length (l := r) (p := fun y => decide (ent T y.toNat x.toNat = 1))
    rw [upsC, List.length_cons]
    have e : (r.length + 1) * (r.length + 1) = r.length * r.length + 2 * r.length + 1 := by
      rw [Nat.add_mul, Nat.mul_add]
      omega
    omega
end Go.Proofs.Ytahkihifgafbnaa
