/- Plain: which plans are right; marks. -/
import Derived.Test.YtmckoehkekkldaaF
namespace Go.Proofs.Ytmckoehkekkldaa
open Go.RowKit

/-- The number at a place of a list of lots is right. -/
def okAt (n : Int) (l : List Int) (i : Nat) : Bool := decide (0 ≤ l.getD i 0) && decide (l.getD i 0 < n) && (decide (i = 0) || decide (l.getD (i - 1) 0 < l.getD i 0))
def setTo (n : Int) (l : List Int) (k : Nat) : Bool := (List.range k).all (okAt n l)
/-- Is the list a set of lots? -/
def setB (n : Int) (l : List Int) : Bool := setTo n l l.length
theorem setTo_succ {n : Int} {l : List Int} {k : Nat} (h : setTo n l k = true) (hk : okAt n l k = true) : setTo n l (k + 1) = true := by
  unfold setTo at h ⊢
  rw [List.range_succ, List.all_append, h]
  simpa using hk
theorem setB_no {n : Int} {l : List Int} {k : Nat} (hk : k < l.length) (h : okAt n l k = false) : setB n l = false := by
  cases hs : setB n l
  · rfl
  · have := List.all_eq_true.1 hs k (List.mem_range.2 hk)
    rw [h] at this
    cases this
theorem getD_of {l : List Int} {k : Nat} {x : Int} (h : l[k]? = some x) : l.getD k 0 = x := by
  rw [List.getD_eq_getElem?_getD, h]
  rfl
theorem setB_in {n : Int} {l : List Int} (h : setB n l = true) {x : Int} (hx : x ∈ l) : 0 ≤ x ∧ x < n := by
  obtain ⟨j, hj⟩ := List.mem_iff_getElem?.1 hx
  have hl := (List.getElem?_eq_some_iff.1 hj).1
  have := List.all_eq_true.1 h j (List.mem_range.2 hl)
  unfold okAt at this
  rw [getD_of hj] at this
  simp only [Bool.and_eq_true, decide_eq_true_eq] at this
  exact this.1
theorem setB_step {n : Int} {l : List Int} (h : setB n l = true) {i : Nat} (hi : i + 1 < l.length) : l.getD i 0 < l.getD (i + 1) 0 := by
  have := List.all_eq_true.1 h (i + 1) (List.mem_range.2 hi)
  unfold okAt at this
  simpa using And.right (by simpa using this : _ ∧ _)
theorem setB_lt {n : Int} {l : List Int} (h : setB n l = true) {i j : Nat} (hij : i < j) (hj : j < l.length) : l.getD i 0 < l.getD j 0 := by
  induction j with
  | zero => omega
  | succ j ih =>
    have h1 := setB_step h hj
    by_cases e : i = j
    · subst e
      exact h1
    · have := ih (by omega) (by omega)
      omega
theorem setB_ge {n : Int} {l : List Int} (h : setB n l = true) : ∀ (j : Nat), j < l.length → (j : Int) ≤ l.getD j 0
  | 0, hj => by
    have := (setB_in h (x := l.getD 0 0) (by rw [List.getD_eq_getElem?_getD, List.getElem?_eq_getElem hj]; exact List.getElem_mem hj)).1
    simpa using this
  | j + 1, hj => by
    have h1 := setB_ge h j (by omega)
    have h2 := setB_step h hj
    omega
theorem setB_len {n : Nat} {l : List Int} (h : setB (n : Int) l = true) : l.length ≤ n := by
  by_cases h0 : l.length = 0
  · omega
  · have h1 := setB_ge h (l.length - 1) (by omega)
    have h2 := (setB_in h (x := l.getD (l.length - 1) 0) (by rw [List.getD_eq_getElem?_getD, List.getElem?_eq_getElem (by omega)]; exact List.getElem_mem (by omega))).2
    omega
theorem setB_nodup {n : Int} {l : List Int} (h : setB n l = true) {i j : Nat} {x : Int} (hi : l[i]? = some x) (hj : l[j]? = some x) : i = j := by
  have li := (List.getElem?_eq_some_iff.1 hi).1
  have lj := (List.getElem?_eq_some_iff.1 hj).1
  have ei := getD_of hi
  have ej := getD_of hj
  rcases Nat.lt_trichotomy i j with h1 | h1 | h1
  · have := setB_lt h h1 lj
    omega
  · exact h1
  · have := setB_lt h h1 li
    omega
/-- The error of a weighing. -/
def errW (n : Int) (p : Wg) : Int := if (setB n p.1 && setB n p.2) = true then (if p.1.any (hasB p.2) = true then 6 else if p.1.length = p.2.length then 0 else 5) else 1
def errPs (n : Int) : List Wg → Int
  | [] => 0
  | p :: P => if errW n p = 0 then errPs n P else errW n p
theorem errPs_append (n : Int) : ∀ (P Q : List Wg), errPs n (P ++ Q) = if errPs n P = 0 then errPs n Q else errPs n P
  | [], Q => by simp [errPs]
  | p :: P, Q => by
    rw [List.cons_append, errPs, errPs, errPs_append n P Q]
    by_cases h : errW n p = 0
    · rw [if_pos h, if_pos h]
    · rw [if_neg h, if_neg h, if_neg h]
theorem errPs_next {n : Int} {P : List Wg} {k : Nat} {p : Wg} (h : errPs n (P.take k) = 0) (hg : P[k]? = some p) (hp : errW n p = 0) : errPs n (P.take (k + 1)) = 0 := by
  rw [take_at hg, errPs_append, if_pos h, errPs, if_pos hp]
  rfl
theorem errPs_stop {n : Int} {P : List Wg} {k : Nat} {p : Wg} (h : errPs n (P.take k) = 0) (hg : P[k]? = some p) (hp : errW n p ≠ 0) : errPs n P = errW n p := by
  have e : P = P.take k ++ p :: P.drop (k + 1) := by rw [← drop_at hg, List.take_append_drop]
  rw [e, errPs_append, if_pos h, errPs, if_neg hp]
/-- The error of a plan. -/
def errV (n : Int) (P : List Wg) : Int := if 1 ≤ n ∧ n ≤ 13 then (if P.length ≤ 3 then errPs n P else 3) else 1
/-- A right weighing. -/
structure GoodW (n : Nat) (p : Wg) : Prop where
  left : setB (n : Int) p.1 = true
  right : setB (n : Int) p.2 = true
  apart : ∀ x ∈ p.1, hasB p.2 x = false
  len : p.1.length = p.2.length
structure Good (n : Nat) (P : List Wg) : Prop where
  pos : 1 ≤ n
  le : n ≤ 13
  few : P.length ≤ 3
  all : ∀ p ∈ P, GoodW n p
theorem errW_good {n : Nat} {p : Wg} (h : errW (n : Int) p = 0) : GoodW n p := by
  unfold errW at h
  split at h
  · rename_i h1
    simp only [Bool.and_eq_true] at h1
    split at h
    · cases h
    · rename_i h2
      split at h
      · rename_i h3
        refine ⟨h1.1, h1.2, fun x hx => ?_, h3⟩
        simp only [List.any_eq_true, not_exists, not_and, Bool.not_eq_true] at h2
        exact h2 x hx
      · cases h
  · cases h
theorem errPs_good {n : Nat} : ∀ {P : List Wg}, errPs (n : Int) P = 0 → ∀ p ∈ P, GoodW n p
  | [], _, p, hp => by cases hp
  | q :: P, h, p, hp => by
    rw [errPs] at h
    by_cases hq : errW (n : Int) q = 0
    · rw [if_pos hq] at h
      rcases List.mem_cons.1 hp with rfl | hp
      · exact errW_good hq
      · exact errPs_good h p hp
    · rw [if_neg hq] at h
      exact absurd h hq
theorem errV_good {n : Int} {P : List Wg} (h : errV n P = 0) : ∃ m : Nat, n = (m : Int) ∧ Good m P := by
  unfold errV at h
  split at h
  · rename_i h1
    obtain ⟨m, rfl⟩ := Int.eq_ofNat_of_zero_le (by omega : 0 ≤ n)
    split at h
    · rename_i h2
      exact ⟨m, rfl, by omega, by omega, h2, errPs_good h⟩
    · cases h
  · cases h
theorem good_errW {n : Nat} {p : Wg} (h : GoodW n p) : errW (n : Int) p = 0 := by
  unfold errW
  rw [h.left, h.right, Bool.and_self, if_pos rfl, if_neg (by simp only [List.any_eq_true, not_exists, not_and, Bool.not_eq_true]; exact h.apart), if_pos h.len]
theorem good_errPs {n : Nat} : ∀ {P : List Wg}, (∀ p ∈ P, GoodW n p) → errPs (n : Int) P = 0
  | [], _ => rfl
  | q :: P, h => by
    rw [errPs, if_pos (good_errW (h q (by simp)))]
    exact good_errPs fun p hp => h p (by simp [hp])
theorem Good.err {n : Nat} {P : List Wg} (h : Good n P) : errV (n : Int) P = 0 := by
  have := h.pos
  have := h.le
  unfold errV
  rw [if_pos (by omega), if_pos h.few, good_errPs h.all]
/-- On which side of a weighing a lot is. -/
def sd (lot : Int) (p : Wg) : Int := if hasB p.2 lot = true then -1 else if hasB p.1 lot = true then 1 else 0
/-- The mark of a lot. -/
def markL (P : List Wg) (lot : Int) : List Int := P.map (sd lot)
theorem markL_length (P : List Wg) (lot : Int) : (markL P lot).length = P.length := by simp [markL]
theorem sd_cases (lot : Int) (p : Wg) : sd lot p = -1 ∨ sd lot p = 0 ∨ sd lot p = 1 := by
  unfold sd
  split
  · exact .inl rfl
  · split
    · exact .inr (.inr rfl)
    · exact .inr (.inl rfl)
/-- The mark as the program keeps it: of three numbers. -/
def markN (P : List Wg) (lot : Int) (k : Nat) : Int := (markL P lot).getD k 0
theorem markN_at {P : List Wg} {k : Nat} {p : Wg} (h : P[k]? = some p) (lot : Int) : markN P lot k = sd lot p := by
  unfold markN markL
  rw [List.getD_eq_getElem?_getD, List.getElem?_map, h]
  rfl
theorem markN_out {P : List Wg} {k : Nat} (h : P.length ≤ k) (lot : Int) : markN P lot k = 0 := by
  unfold markN markL
  rw [List.getD_eq_getElem?_getD, List.getElem?_map, List.getElem?_eq_none h]
  rfl
theorem markN_cases (P : List Wg) (lot : Int) (k : Nat) : markN P lot k = -1 ∨ markN P lot k = 0 ∨ markN P lot k = 1 := by
  by_cases h : k < P.length
  · rw [markN_at (List.getElem?_eq_getElem h)]
    exact sd_cases _ _
  · exact .inr (.inl (markN_out (by omega) lot))
end Go.Proofs.Ytmckoehkekkldaa
