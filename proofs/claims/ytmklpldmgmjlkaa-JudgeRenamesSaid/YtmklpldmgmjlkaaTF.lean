/- Plain: grades with other numbers. -/
import Derived.Test.YtmklpldmgmjlkaaTA
namespace Go.Proofs.Ytmklpldmgmjlkaa
open Go.RowKit

theorem scanI_iff {below : Int} : ∀ {l : List Int} {last : Int}, scanI last below l = true ↔ (∀ x ∈ l, last < x ∧ x < below) ∧ l.Pairwise (· < ·)
  | [], last => by simp [scanI]
  | x :: l, last => by
    have ih := scanI_iff (below := below) (l := l) (last := x)
    rw [scanI, Bool.and_eq_true, Bool.and_eq_true, decide_eq_true_iff, decide_eq_true_iff, ih, List.pairwise_cons]
    constructor
    · rintro ⟨⟨h1, h2⟩, h3, h4⟩
      refine ⟨fun y hy => ?_, fun y hy => (h3 y hy).1, h4⟩
      rcases List.mem_cons.1 hy with rfl | hy
      · exact ⟨h1, h2⟩
      · have := h3 y hy
        omega
    · rintro ⟨h1, h2, h3⟩
      exact ⟨h1 x (by simp), fun y hy => ⟨h2 y hy, (h1 y (by simp [hy])).2⟩, h3⟩
theorem set_in {ns : List Int} {g : Int} (h : setB ns g = true) {v : Int} (hv : v ∈ ns) : 0 ≤ v ∧ v < g := by
  have := (scanI_iff.1 h).1 v hv
  omega
theorem set_inc {ns : List Int} {g : Int} (h : setB ns g = true) : ns.Pairwise (· < ·) := (scanI_iff.1 h).2
theorem set_of {ns : List Int} {g : Int} (h1 : ∀ v ∈ ns, 0 ≤ v ∧ v < g) (h2 : ns.Pairwise (· < ·)) : setB ns g = true := scanI_iff.2 ⟨fun v hv => by have := h1 v hv; omega, h2⟩
theorem inc_ext : ∀ {a b : List Int}, a.Pairwise (· < ·) → b.Pairwise (· < ·) → (∀ v, v ∈ a ↔ v ∈ b) → a = b
  | [], b, _, _, h => by
    cases b with
    | nil => rfl
    | cons x r => exact absurd ((h x).2 (by simp)) (by simp)
  | x :: a, [], _, _, h => absurd ((h x).1 (by simp)) (by simp)
  | x :: a, y :: b, ha, hb, h => by
    rw [List.pairwise_cons] at ha hb
    have hx := (h x).1 (by simp)
    have hy := (h y).2 (by simp)
    obtain rfl : x = y := by
      rcases List.mem_cons.1 hx with e | h1
      · exact e
      · rcases List.mem_cons.1 hy with e | h2
        · exact e.symm
        · have := hb.1 x h1
          have := ha.1 y h2
          omega
    rw [inc_ext ha.2 hb.2 (fun v => by
      constructor
      · intro hv
        rcases List.mem_cons.1 ((h v).1 (by simp [hv])) with e | h1
        · have := ha.1 v hv
          omega
        · exact h1
      · intro hv
        rcases List.mem_cons.1 ((h v).2 (by simp [hv])) with e | h1
        · have := hb.1 v hv
          omega
        · exact h1)]
/-- All numbers below n. -/
def rangeI (n : Nat) : List Int := (List.range n).map fun x : Nat => (x : Int)
theorem rangeI_succ (n : Nat) : rangeI (n + 1) = rangeI n ++ [(n : Int)] := by simp [rangeI, List.range_succ]
theorem rangeI_mem {n : Nat} {v : Int} : v ∈ rangeI n ↔ 0 ≤ v ∧ v < n := by
  unfold rangeI
  simp only [List.mem_map, List.mem_range]
  constructor
  · rintro ⟨x, h, rfl⟩
    omega
  · rintro ⟨h1, h2⟩
    exact ⟨v.toNat, by omega, by omega⟩
theorem rangeI_nodup (n : Nat) : (rangeI n).Nodup := by
  unfold rangeI List.Nodup
  rw [List.pairwise_map]
  exact List.pairwise_lt_range.imp fun h e => by omega
theorem full_perm : ∀ (n : Nat) (l : List Int), l.length = n → (∀ i : Nat, i < n → (i : Int) ∈ l) → l.Perm (rangeI n)
  | 0, l, h, _ => by
    rw [List.eq_nil_of_length_eq_zero h]
    exact List.Perm.refl _
  | n + 1, l, h, hm => by
    have hn : (n : Int) ∈ l := hm n (by omega)
    have hp := List.perm_cons_erase hn
    have ih := full_perm n (l.erase (n : Int)) (by rw [List.length_erase_of_mem hn]; omega) (fun i hi => (List.mem_erase_of_ne (by omega)).2 (hm i (by omega)))
    rw [rangeI_succ]
    exact (hp.trans (ih.cons _)).trans (List.perm_append_singleton _ _).symm
/-- A list that numbers n grades anew. -/
structure Renum (n : Nat) (l : List Int) : Prop where
  len : l.length = n
  all : ∀ i : Nat, i < n → (i : Int) ∈ l
instance (n : Nat) (l : List Int) : Decidable (Renum n l) := decidable_of_iff (l.length = n ∧ ∀ i : Nat, i < n → (i : Int) ∈ l) ⟨fun h => ⟨h.1, h.2⟩, fun h => ⟨h.len, h.all⟩⟩
theorem Renum.perm {n : Nat} {l : List Int} (h : Renum n l) : l.Perm (rangeI n) := full_perm n l h.len h.all
theorem Renum.range {n : Nat} {l : List Int} (h : Renum n l) {v : Int} (hv : v ∈ l) : 0 ≤ v ∧ v < n := rangeI_mem.1 ((h.perm.mem_iff).1 hv)
theorem Renum.nodup {n : Nat} {l : List Int} (h : Renum n l) : l.Nodup := h.perm.nodup_iff.2 (rangeI_nodup n)
/-- The grade x has the number toN l x. -/
def toN (l : List Int) (x : Nat) : Nat := (l.getD x 0).toNat
theorem Renum.at_ {n : Nat} {l : List Int} (h : Renum n l) {x : Nat} (hx : x < n) : l[x]? = some (toN l x : Int) ∧ toN l x < n := by
  have hxl : x < l.length := by rw [h.len]; exact hx
  have e : l[x]? = some l[x] := List.getElem?_eq_getElem hxl
  have hr := h.range (List.mem_of_getElem? e)
  have e2 : l.getD x 0 = l[x] := by rw [List.getD_eq_getElem?_getD, e]; rfl
  unfold toN
  rw [e2]
  refine ⟨?_, by omega⟩
  rw [e]
  congr 1
  omega
theorem Renum.inj {n : Nat} {l : List Int} (h : Renum n l) {x y : Nat} (hx : x < n) (hy : y < n) (e : toN l x = toN l y) : x = y := by
  have h1 := (h.at_ hx).1
  have h2 := (h.at_ hy).1
  rw [e, ← h2] at h1
  have hl := h.len
  rcases Nat.lt_trichotomy x y with hlt | rfl | hlt
  · have := List.pairwise_iff_getElem.1 h.nodup x y (by omega) (by omega) hlt
    rw [List.getElem?_eq_getElem (by omega), List.getElem?_eq_getElem (by omega)] at h1
    exact absurd (Option.some.inj h1) this
  · rfl
  · have := List.pairwise_iff_getElem.1 h.nodup y x (by omega) (by omega) hlt
    rw [List.getElem?_eq_getElem (by omega), List.getElem?_eq_getElem (by omega)] at h1
    exact absurd (Option.some.inj h1).symm this
/-- The grades of which f holds, from the smallest. -/
def lotsF (f : Nat → Bool) (n : Nat) : List Int := ((List.range n).filter f).map fun x : Nat => (x : Int)
theorem lotsF_sorted (f : Nat → Bool) (n : Nat) : (lotsF f n).Pairwise (· < ·) := by
  unfold lotsF
  rw [List.pairwise_map]
  exact (List.pairwise_lt_range.filter f).imp fun h => by omega
theorem lotsF_mem (f : Nat → Bool) (n : Nat) (v : Int) : v ∈ lotsF f n ↔ ∃ x : Nat, v = (x : Int) ∧ x < n ∧ f x = true := by
  unfold lotsF
  simp only [List.mem_map, List.mem_filter, List.mem_range]
  exact ⟨fun ⟨x, h, e⟩ => ⟨x, e.symm, h.1, h.2⟩, fun ⟨x, e, h1, h2⟩ => ⟨x, ⟨h1, h2⟩, e.symm⟩⟩
theorem lotsF_at (f : Nat → Bool) {n x : Nat} (hx : x < n) : hasB (lotsF f n) (x : Int) = f x := by
  cases hf : f x
  · cases hh : hasB (lotsF f n) (x : Int)
    · rfl
    · obtain ⟨y, e, _, h2⟩ := (lotsF_mem f n _).1 (hasB_iff.1 hh)
      obtain rfl : x = y := by omega
      rw [hf] at h2
      cases h2
  · exact hasB_iff.2 ((lotsF_mem f n _).2 ⟨x, rfl, hx, hf⟩)
theorem lotsF_snoc (f : Nat → Bool) (n : Nat) : lotsF f (n + 1) = if f n = true then lotsF f n ++ [(n : Int)] else lotsF f n := by
  unfold lotsF
  rw [List.range_succ, List.filter_append]
  by_cases h : f n = true <;> simp [h]
theorem lotsF_len (f : Nat → Bool) (n : Nat) : (lotsF f n).length ≤ n := by
  unfold lotsF
  rw [List.length_map]
  exact Nat.le_trans (List.length_filter_le _ _) (by simp)
/-- A grade has such a number among those of l. -/
def hitB (to l : List Int) (y : Nat) : Bool := l.any fun v => decide (toN to v.toNat = y)
/-- A set with other numbers. -/
def imgL (to : List Int) (n : Nat) (l : List Int) : List Int := lotsF (hitB to l) n
theorem hitB_to {n : Nat} {to l : List Int} (h : Renum n to) (hl : setB l (n : Int) = true) {x : Nat} (hx : x < n) : hitB to l (toN to x) = hasB l (x : Int) := by
  rw [Bool.eq_iff_iff, hasB_iff]
  unfold hitB
  rw [List.any_eq_true]
  constructor
  · rintro ⟨v, hv, e⟩
    have hr := set_in hl hv
    have e := h.inj (by omega) hx (of_decide_eq_true e)
    rw [show (x : Int) = v from by omega]
    exact hv
  · intro hv
    exact ⟨_, hv, by simp⟩
theorem imgL_set {n : Nat} {to l : List Int} : setB (imgL to n l) (n : Int) = true := set_of (fun v hv => by
  obtain ⟨x, rfl, h, _⟩ := (lotsF_mem _ n v).1 hv
  omega) (lotsF_sorted _ n)
/-- The numbers of a list, in the list's order. -/
def mapL (to l : List Int) : List Int := l.map fun v => (toN to v.toNat : Int)
theorem mapL_sort {n : Nat} {to l : List Int} (h : Renum n to) (hl : setB l (n : Int) = true) : ((mapL to l).mergeSort fun x y => decide (x ≤ y)) = imgL to n l := by
  have hp := List.mergeSort_perm (mapL to l) (fun x y : Int => decide (x ≤ y))
  have hs : ((mapL to l).mergeSort fun x y => decide (x ≤ y)).Pairwise (· ≤ ·) := by
    have := List.pairwise_mergeSort (le := fun x y : Int => decide (x ≤ y)) (fun a b c h1 h2 => by simp at *; omega) (fun a b => by simp; omega) (mapL to l)
    exact this.imp fun h => by simpa using h
  have hm : (mapL to l).Nodup := by
    unfold mapL List.Nodup
    rw [List.pairwise_map]
    refine (set_inc hl).imp_of_mem fun {a b} ha hb hne e => ?_
    have h1 := set_in hl ha
    have h2 := set_in hl hb
    have := h.inj (x := a.toNat) (y := b.toNat) (by omega) (by omega) (by omega)
    omega
  have hnd := hp.nodup_iff.2 hm
  refine inc_ext ((hs.and hnd).imp fun ⟨h1, h2⟩ => by omega) (lotsF_sorted _ n) fun v => ?_
  rw [hp.mem_iff, mapL, List.mem_map, imgL, lotsF_mem]
  constructor
  · rintro ⟨u, hu, rfl⟩
    have h1 := set_in hl hu
    exact ⟨_, rfl, (h.at_ (x := u.toNat) (by omega)).2, List.any_eq_true.2 ⟨u, hu, by simp⟩⟩
  · rintro ⟨y, rfl, hy, hh⟩
    unfold hitB at hh
    obtain ⟨u, hu, e⟩ := List.any_eq_true.1 hh
    exact ⟨u, hu, by rw [of_decide_eq_true e]⟩
def renA (to : List Int) (g : Nat) (a : An) : An := (imgL to g a.1, a.2)
def renL (to : List Int) (g : Nat) (L : List An) : List An := L.map (renA to g)
theorem renL_length (to : List Int) (g : Nat) (L : List An) : (renL to g L).length = L.length := by simp [renL]
theorem renL_at {to : List Int} {g : Nat} {L : List An} {k : Nat} {ns : List Int} {y : Bool} (h : L[k]? = some (ns, y)) : (renL to g L)[k]? = some (imgL to g ns, y) := by
  unfold renL
  rw [List.getElem?_map, h]
  rfl
theorem errA_sets {g : Int} {L : List An} (h : errA g L = 0) : ∀ a ∈ L, setB a.1 g = true := fun a ha => List.all_eq_true.1 (errA_zero h).2.2 a ha
theorem renL_valid {to : List Int} {g : Nat} {L : List An} (h : errA (g : Int) L = 0) : errA (g : Int) (renL to g L) = 0 := by
  obtain ⟨h1, h2, h3⟩ := errA_zero h
  unfold errA
  rw [if_pos h1, renL_length, if_neg (by omega), if_pos]
  unfold setsB
  rw [List.all_eq_true]
  intro a ha
  obtain ⟨b, _, rfl⟩ := List.mem_map.1 ha
  exact imgL_set
theorem renL_cnt {to : List Int} {g : Nat} {L : List An} (hL : ∀ a ∈ L, setB a.1 (g : Int) = true) (hR : Renum g to) {x : Nat} (hx : x < g) : cntI (renL to g L) (toN to x) = cntI L x := by
  unfold cntI renL
  rw [List.filter_map, List.length_map]
  congr 2
  refine List.filter_congr fun a ha => ?_
  simp only [Function.comp, ag, renA, imgL]
  rw [lotsF_at _ (hR.at_ hx).2, hitB_to hR (hL a ha) hx]
end Go.Proofs.Ytmklpldmgmjlkaa
