/- Plain: rounds of a rearrangement. -/
import Derived.Test.YthjjpmcefiddmaaL
namespace Go.Proofs.Ythjjpmcefiddmaa
open Go.RowKit

/-- F so many times. -/
def itF (F : Nat → Nat) : Nat → Nat → Nat
  | 0, p => p
  | m + 1, p => F (itF F m p)
/-- F rearranges the places below n, and is the identity after T times. -/
structure Perm (F : Nat → Nat) (n T : Nat) : Prop where
  lt : ∀ p, p < n → F p < n
  inj : ∀ p q, p < n → q < n → F p = F q → p = q
  pos : 1 ≤ T
  back : ∀ p, p < n → itF F T p = p
section
variable {F : Nat → Nat} {n T : Nat}
theorem itF_lt (h : Perm F n T) {p : Nat} (hp : p < n) : ∀ m, itF F m p < n
  | 0 => hp
  | m + 1 => h.lt _ (itF_lt h hp m)
theorem itF_add (F : Nat → Nat) (a p : Nat) : ∀ b, itF F (b + a) p = itF F b (itF F a p)
  | 0 => by rw [Nat.zero_add]; rfl
  | b + 1 => by
    rw [Nat.succ_add]
    show F _ = F _
    rw [itF_add F a p b]
theorem itF_inj (h : Perm F n T) {p q : Nat} (hp : p < n) (hq : q < n) : ∀ m, itF F m p = itF F m q → p = q
  | 0, e => e
  | m + 1, e => itF_inj h hp hq m (h.inj _ _ (itF_lt h hp m) (itF_lt h hq m) e)
theorem itF_mul (h : Perm F n T) {p : Nat} (hp : p < n) {c : Nat} (hc : itF F c p = p) : ∀ k, itF F (c * k) p = p
  | 0 => rfl
  | k + 1 => by rw [Nat.mul_succ, itF_add, hc, itF_mul h hp hc k]
theorem itF_mod (h : Perm F n T) {p : Nat} (hp : p < n) {c : Nat} (hc : itF F c p = p) (m : Nat) : itF F (m % c) p = itF F m p := by
  have e := Nat.mod_add_div m c
  have : itF F m p = itF F (m % c + c * (m / c)) p := by rw [e]
  rw [this, itF_add, itF_mul h hp hc]
/-- The length of the round of p. -/
def cycF (F : Nat → Nat) (T p : Nat) : Nat := 1 + (List.range T).findIdx fun m => decide (itF F (m + 1) p = p)
theorem cycF_ok (h : Perm F n T) {p : Nat} (hp : p < n) : itF F (cycF F T p) p = p ∧ 1 ≤ cycF F T p ∧ cycF F T p ≤ T := by
  have h1 := h.pos
  have hlt : (List.range T).findIdx (fun m => decide (itF F (m + 1) p = p)) < (List.range T).length := List.findIdx_lt_length_of_exists ⟨T - 1, by simp; omega, by rw [show T - 1 + 1 = T from by omega]; exact decide_eq_true (h.back p hp)⟩
  have h3 := List.findIdx_getElem (w := hlt)
  simp at h3 hlt
  unfold cycF
  rw [Nat.add_comm]
  exact ⟨h3, by omega, by omega⟩
theorem cycF_min {p m : Nat} (h1 : 1 ≤ m) (hm : m < cycF F T p) : itF F m p ≠ p := by
  unfold cycF at hm
  have hlt : m - 1 < (List.range T).findIdx (fun m => decide (itF F (m + 1) p = p)) := by omega
  have h3 := List.not_of_lt_findIdx hlt
  simp at h3
  rw [show m - 1 + 1 = m from by omega] at h3
  exact h3
theorem cyc_apart (h : Perm F n T) {p i m : Nat} (hp : p < n) (hi : i < m) (hm : m < cycF F T p) : itF F m p ≠ itF F i p := fun e => by
  have h2 : itF F i (itF F (m - i) p) = itF F i p := by rw [← itF_add, show i + (m - i) = m from by omega]; exact e
  exact cycF_min (F := F) (T := T) (by omega) (by omega) (itF_inj h (itF_lt h hp _) hp i h2)
/-- Does the round of q hold a place below s? -/
def seenB (F : Nat → Nat) (T s q : Nat) : Bool := (List.range T).any fun m => decide (itF F m q < s)
theorem seenB_iff {s q : Nat} : seenB F T s q = true ↔ ∃ m, m < T ∧ itF F m q < s := by
  unfold seenB
  simp
theorem seenB_any (h : Perm F n T) {s q : Nat} (hq : q < n) : seenB F T s q = true ↔ ∃ m, itF F m q < s := by
  rw [seenB_iff]
  constructor
  · rintro ⟨m, _, e⟩; exact ⟨m, e⟩
  · rintro ⟨m, e⟩
    exact ⟨m % T, Nat.mod_lt _ h.pos, by rw [itF_mod h hq (h.back q hq)]; exact e⟩
theorem seenB_zero (q : Nat) : seenB F T 0 q = false := by
  rw [Bool.eq_false_iff]
  intro e
  obtain ⟨m, _, h⟩ := seenB_iff.1 e
  omega
/-- From each place of a round one comes to each other. -/
theorem round_back (h : Perm F n T) {p q m : Nat} (hp : p < n) (e : itF F m p = q) : ∃ j, itF F j q = p := by
  refine ⟨T * (m + 1) - m, ?_⟩
  have hm : m ≤ T * (m + 1) := by
    have := Nat.mul_le_mul_right (m + 1) h.pos
    omega
  rw [← e, ← itF_add, show T * (m + 1) - m + m = T * (m + 1) from by omega]
  exact itF_mul h hp (h.back p hp) _
theorem seenB_orbit (h : Perm F n T) {s p q m : Nat} (hp : p < n) (e : itF F m p = q) : seenB F T s q = seenB F T s p := by
  have hq : q < n := by rw [← e]; exact itF_lt h hp m
  rw [Bool.eq_iff_iff, seenB_any h hq, seenB_any h hp]
  constructor
  · rintro ⟨j, hj⟩
    exact ⟨j + m, by rw [itF_add, e]; exact hj⟩
  · rintro ⟨j, hj⟩
    obtain ⟨i, hi⟩ := round_back h hp e
    exact ⟨j + i, by rw [itF_add, hi]; exact hj⟩
/-- What is seen when the round of s, of which a lesser place is in it, is passed over. -/
theorem seenB_skip (h : Perm F n T) {s q : Nat} (_hs : s < n) (hq : q < n) (hsn : seenB F T s s = true) : seenB F T (s + 1) q = seenB F T s q := by
  rw [Bool.eq_iff_iff]
  constructor
  · intro e
    obtain ⟨m, hm⟩ := (seenB_any h hq).1 e
    by_cases h1 : itF F m q < s
    · exact (seenB_any h hq).2 ⟨m, h1⟩
    · have h2 : itF F m q = s := by omega
      rw [← seenB_orbit (s := s) h hq h2]
      exact hsn
  · intro e
    obtain ⟨m, hm⟩ := (seenB_any h hq).1 e
    exact (seenB_any h hq).2 ⟨m, by omega⟩
/-- What is seen after m places of the round of s. -/
def seenM (F : Nat → Nat) (T s m q : Nat) : Bool := seenB F T s q || (List.range m).any fun i => decide (itF F i s = q)
theorem seenM_zero (s q : Nat) : seenM F T s 0 q = seenB F T s q := by simp [seenM]
theorem seenM_succ (s m q : Nat) : seenM F T s (m + 1) q = if q = itF F m s then true else seenM F T s m q := by
  unfold seenM
  rw [List.range_succ, List.any_append]
  by_cases h1 : q = itF F m s
  · rw [if_pos h1]
    simp [h1]
  · rw [if_neg h1]
    have : ¬ itF F m s = q := fun e => h1 e.symm
    simp [this]
theorem seenM_new (h : Perm F n T) {s m : Nat} (hs : s < n) (hsn : seenB F T s s = false) (hm : m < cycF F T s) : seenM F T s m (itF F m s) = false := by
  unfold seenM
  rw [seenB_orbit (s := s) h hs rfl, hsn, Bool.false_or, List.any_eq_false]
  intro i hi
  have := cyc_apart h hs (List.mem_range.1 hi) hm
  simpa using fun e : itF F i s = itF F m s => this e.symm
theorem seenM_back (h : Perm F n T) {s : Nat} (hs : s < n) : seenM F T s (cycF F T s) (itF F (cycF F T s) s) = true := by
  obtain ⟨h1, h2, _⟩ := cycF_ok h hs
  rw [h1]
  unfold seenM
  rw [Bool.or_eq_true]
  exact .inr (List.any_eq_true.2 ⟨0, List.mem_range.2 (by omega), decide_eq_true rfl⟩)
theorem seenM_all (h : Perm F n T) {s q : Nat} (hs : s < n) (hq : q < n) : seenM F T s (cycF F T s) q = seenB F T (s + 1) q := by
  obtain ⟨h1, h2, _⟩ := cycF_ok h hs
  rw [Bool.eq_iff_iff]
  unfold seenM
  rw [Bool.or_eq_true, List.any_eq_true]
  constructor
  · rintro (e | ⟨i, hi, e⟩)
    · obtain ⟨m, hm⟩ := (seenB_any h hq).1 e
      exact (seenB_any h hq).2 ⟨m, by omega⟩
    · obtain ⟨j, hj⟩ := round_back h hs (of_decide_eq_true e)
      exact (seenB_any h hq).2 ⟨j, by omega⟩
  · intro e
    obtain ⟨m, hm⟩ := (seenB_any h hq).1 e
    by_cases h3 : itF F m q < s
    · exact .inl ((seenB_any h hq).2 ⟨m, h3⟩)
    · have h4 : itF F m q = s := by omega
      obtain ⟨j, hj⟩ := round_back h hq h4
      refine .inr ⟨j % cycF F T s, List.mem_range.2 (Nat.mod_lt _ (by omega)), decide_eq_true ?_⟩
      rw [itF_mod h hs h1]
      exact hj
/-- The lengths of the rounds of the places below s, each by its least place. -/
def rdsTo (F : Nat → Nat) (T s : Nat) : List Int := (List.range s).filterMap fun p => if seenB F T p p = true then none else some ((cycF F T p : Nat) : Int)
theorem rdsTo_skip {s : Nat} (h : seenB F T s s = true) : rdsTo F T (s + 1) = rdsTo F T s := by
  unfold rdsTo
  rw [List.range_succ, List.filterMap_append]
  simp [h]
theorem rdsTo_next {s : Nat} (h : seenB F T s s = false) : rdsTo F T (s + 1) = rdsTo F T s ++ [((cycF F T s : Nat) : Int)] := by
  unfold rdsTo
  rw [List.range_succ, List.filterMap_append]
  simp [h]
theorem rdsTo_len (F : Nat → Nat) (T s : Nat) : (rdsTo F T s).length ≤ s := by
  unfold rdsTo
  exact Nat.le_trans (List.length_filterMap_le _ _) (by simp)
end
end Go.Proofs.Ythjjpmcefiddmaa
