/- Plain: lots with other numbers. -/
import Derived.Test.YtmckoehkekkldaaAS
import Derived.Test.YtmckoehkekkldaaAU
namespace Go.Proofs.Ytmckoehkekkldaa
open Go.RowKit

/-- All numbers below n. -/
def rangeI (n : Nat) : List Int := (List.range n).map fun x : Nat => (x : Int)
theorem rangeI_succ (n : Nat) : rangeI (n + 1) = rangeI n ++ [(n : Int)] := by simp [rangeI, List.range_succ]
theorem rangeI_mem {n : Nat} {v : Int} : v ∈ rangeI n ↔ 0 ≤ v ∧ v < n := by
  unfold rangeI
  simp only [List.mem_map, List.mem_range]
  constructor
  · rintro ⟨x, h, rfl⟩
    omega
  · rintro ⟨h1, h2⟩
    exact ⟨v.toNat, by omega, by omega⟩
theorem rangeI_nodup (n : Nat) : (rangeI n).Nodup := by
  unfold rangeI List.Nodup
  rw [List.pairwise_map]
  exact List.pairwise_lt_range.imp fun h e => by omega
theorem full_perm : ∀ (n : Nat) (l : List Int), l.length = n → (∀ i : Nat, i < n → (i : Int) ∈ l) → l.Perm (rangeI n)
  | 0, l, h, _ => by
    rw [List.eq_nil_of_length_eq_zero h]
    exact List.Perm.refl _
  | n + 1, l, h, hm => by
    have hn : (n : Int) ∈ l := hm n (by omega)
    have hp := List.perm_cons_erase hn
    have ih := full_perm n (l.erase (n : Int)) (by rw [List.length_erase_of_mem hn]; omega) (fun i hi => (List.mem_erase_of_ne (by omega)).2 (hm i (by omega)))
    rw [rangeI_succ]
    exact (hp.trans (ih.cons _)).trans (List.perm_append_singleton _ _).symm
/-- A list that numbers n lots anew. -/
structure Renum (n : Nat) (l : List Int) : Prop where
  len : l.length = n
  all : ∀ i : Nat, i < n → (i : Int) ∈ l
theorem Renum.perm {n : Nat} {l : List Int} (h : Renum n l) : l.Perm (rangeI n) := full_perm n l h.len h.all
theorem Renum.range {n : Nat} {l : List Int} (h : Renum n l) {v : Int} (hv : v ∈ l) : 0 ≤ v ∧ v < n := rangeI_mem.1 ((h.perm.mem_iff).1 hv)
theorem Renum.nodup {n : Nat} {l : List Int} (h : Renum n l) : l.Nodup := h.perm.nodup_iff.2 (rangeI_nodup n)
theorem inc_ge {s : List Int} {n : Nat} (h : setB (n : Int) s = true) : ∀ i : Nat, i < s.length → (i : Int) ≤ s.getD i 0
  | 0, hi => (setB_in h (List.mem_of_getElem? (show s[0]? = some (s.getD 0 0) by rw [List.getD_eq_getElem?_getD, List.getElem?_eq_getElem hi]; rfl))).1
  | i + 1, hi => by
    have h1 := inc_ge h i (by omega)
    have h2 := setB_lt h (i := i) (j := i + 1) (by omega) hi
    omega
theorem inc_le {s : List Int} {n : Nat} (h : setB (n : Int) s = true) (hl : s.length = n) : ∀ k : Nat, k < n → s.getD (n - 1 - k) 0 ≤ ((n - 1 - k : Nat) : Int)
  | 0, hk => by
    have e : s[n - 1 - 0]? = some (s.getD (n - 1 - 0) 0) := by rw [List.getD_eq_getElem?_getD, List.getElem?_eq_getElem (by omega)]; rfl
    have := (setB_in h (List.mem_of_getElem? e)).2
    omega
  | k + 1, hk => by
    have h1 := inc_le h hl k (by omega)
    have h2 := setB_lt h (i := n - 1 - (k + 1)) (j := n - 1 - k) (by omega) (by omega)
    omega
theorem renum_iff {n : Nat} {l s : List Int} (hl : l.length = n) (hp : s.Perm l) (hs : s.Pairwise (· ≤ ·)) : setB (n : Int) s = true ↔ ∀ i : Nat, i < n → (i : Int) ∈ l := by
  have hsl : s.length = n := by rw [hp.length_eq, hl]
  constructor
  · intro h i hi
    have h1 := inc_ge h i (by omega)
    have h2 := inc_le h hsl (n - 1 - i) (by omega)
    rw [show n - 1 - (n - 1 - i) = i from by omega] at h2
    have e : s[i]? = some (s.getD i 0) := by rw [List.getD_eq_getElem?_getD, List.getElem?_eq_getElem (by omega)]; rfl
    have e2 : s.getD i 0 = (i : Int) := by omega
    rw [e2] at e
    exact hp.mem_iff.1 (List.mem_of_getElem? e)
  · intro h
    have hR : Renum n l := ⟨hl, h⟩
    have hnd : s.Nodup := hp.nodup_iff.2 hR.nodup
    refine setB_sorted ?_ fun v hv => ?_
    · have := hs.and hnd
      exact this.imp fun ⟨h1, h2⟩ => by omega
    · have := hR.range (hp.mem_iff.1 hv)
      exact ⟨this.1, by simpa using this.2⟩
theorem same_len : ∀ {a b : List Int}, a.Nodup → b.Nodup → (∀ v, v ∈ a ↔ v ∈ b) → a.length = b.length
  | [], b, _, _, h => by
    cases b with
    | nil => rfl
    | cons x r => exact absurd ((h x).2 (by simp)) (by simp)
  | x :: a, b, ha, hb, h => by
    have hx : x ∈ b := (h x).1 (by simp)
    rw [List.nodup_cons] at ha
    have ih := same_len ha.2 (hb.erase x) (fun v => by
      rw [hb.mem_erase_iff]
      constructor
      · intro hv
        exact ⟨fun e => ha.1 (e ▸ hv), (h v).1 (by simp [hv])⟩
      · rintro ⟨h1, h2⟩
        have := (h v).2 h2
        simpa [h1] using this)
    have := List.length_erase_of_mem hx
    have hpos : 0 < b.length := List.length_pos_of_mem hx
    rw [List.length_cons, ih]
    omega
/-- The lot x has the number toN l x. -/
def toN (l : List Int) (x : Nat) : Nat := (l.getD x 0).toNat
theorem Renum.at_ {n : Nat} {l : List Int} (h : Renum n l) {x : Nat} (hx : x < n) : l[x]? = some (toN l x : Int) ∧ toN l x < n := by
  have hxl : x < l.length := by rw [h.len]; exact hx
  have e : l[x]? = some l[x] := List.getElem?_eq_getElem hxl
  have hr := h.range (List.mem_of_getElem? e)
  have e2 : l.getD x 0 = l[x] := getD_of e
  unfold toN
  rw [e2]
  refine ⟨?_, by omega⟩
  rw [e]
  congr 1
  omega
theorem Renum.inj {n : Nat} {l : List Int} (h : Renum n l) {x y : Nat} (hx : x < n) (hy : y < n) (e : toN l x = toN l y) : x = y := by
  have h1 := (h.at_ hx).1
  have h2 := (h.at_ hy).1
  rw [e, ← h2] at h1
  have hl := h.len
  rcases Nat.lt_trichotomy x y with hlt | rfl | hlt
  · have := List.pairwise_iff_getElem.1 h.nodup x y (by omega) (by omega) hlt
    rw [List.getElem?_eq_getElem (by omega), List.getElem?_eq_getElem (by omega)] at h1
    exact absurd (Option.some.inj h1) this
  · rfl
  · have := List.pairwise_iff_getElem.1 h.nodup y x (by omega) (by omega) hlt
    rw [List.getElem?_eq_getElem (by omega), List.getElem?_eq_getElem (by omega)] at h1
    exact absurd (Option.some.inj h1).symm this
theorem Renum.onto {n : Nat} {l : List Int} (h : Renum n l) {y : Nat} (hy : y < n) : ∃ x, x < n ∧ toN l x = y := by
  obtain ⟨x, hx⟩ := List.mem_iff_getElem?.1 (h.all y hy)
  have hlt : x < n := by rw [← h.len]; exact (List.getElem?_eq_some_iff.1 hx).1
  refine ⟨x, hlt, ?_⟩
  have := (h.at_ hlt).1
  rw [hx] at this
  have := Option.some.inj this
  omega
/-- Lot y has such a number among those of l. -/
def hitB (to l : List Int) (y : Nat) : Bool := l.any fun v => decide (toN to v.toNat = y)
/-- A set with other numbers. -/
def imgL (to : List Int) (n : Nat) (l : List Int) : List Int := lotsF (hitB to l) n
def renP (to : List Int) (n : Nat) (P : List Wg) : List Wg := P.map fun p => (imgL to n p.1, imgL to n p.2)
theorem hitB_to {n : Nat} {to l : List Int} (h : Renum n to) (hl : setB (n : Int) l = true) {x : Nat} (hx : x < n) : hitB to l (toN to x) = hasB l (x : Int) := by
  rw [Bool.eq_iff_iff, hasB_iff]
  unfold hitB
  rw [List.any_eq_true]
  constructor
  · rintro ⟨v, hv, e⟩
    have hr := setB_in hl hv
    have e := h.inj (by omega) hx (of_decide_eq_true e)
    rw [show (x : Int) = v from by omega]
    exact hv
  · intro hv
    exact ⟨_, hv, by simp⟩
theorem imgL_len {n : Nat} {to l : List Int} (h : Renum n to) (hl : setB (n : Int) l = true) : (imgL to n l).length = l.length := by
  have hnd : l.Nodup := (setB_pairwise hl).imp fun h e => by omega
  have hm : (l.map fun v => (toN to v.toNat : Int)).Nodup := by
    unfold List.Nodup
    rw [List.pairwise_map]
    refine hnd.imp_of_mem fun {a b} ha hb hne e => hne ?_
    have h1 := setB_in hl ha
    have h2 := setB_in hl hb
    have := h.inj (x := a.toNat) (y := b.toNat) (by omega) (by omega) (by omega)
    omega
  unfold imgL
  rw [same_len ((lotsF_sorted _ n).imp fun h e => by omega) hm (fun v => ?_), List.length_map]
  rw [lotsF_mem, List.mem_map]
  constructor
  · rintro ⟨y, rfl, hy, hh⟩
    unfold hitB at hh
    obtain ⟨u, hu, e⟩ := List.any_eq_true.1 hh
    exact ⟨u, hu, by rw [of_decide_eq_true e]⟩
  · rintro ⟨u, hu, rfl⟩
    have h1 := setB_in hl hu
    exact ⟨_, rfl, (h.at_ (x := u.toNat) (by omega)).2, List.any_eq_true.2 ⟨u, hu, by simp⟩⟩
theorem sd_ren {n : Nat} {to : List Int} (h : Renum n to) {p : Wg} (hp : GoodW n p) {x : Nat} (hx : x < n) : sd (toN to x : Int) (imgL to n p.1, imgL to n p.2) = sd (x : Int) p := by
  have hy := (h.at_ hx).2
  unfold sd imgL
  rw [lotsF_at _ hy, lotsF_at _ hy, hitB_to h hp.left hx, hitB_to h hp.right hx]
theorem renP_length (to : List Int) (n : Nat) (P : List Wg) : (renP to n P).length = P.length := by simp [renP]
theorem Good.ren {n : Nat} {to : List Int} {P : List Wg} (hG : Good n P) (h : Renum n to) : Good n (renP to n P) := by
  refine ⟨hG.pos, hG.le, by rw [renP_length]; exact hG.few, fun q hq => ?_⟩
  obtain ⟨p, hp, rfl⟩ := List.mem_map.1 hq
  have hw := hG.all p hp
  refine ⟨lotsF_set _ _, lotsF_set _ _, fun v hv => ?_, ?_⟩
  · obtain ⟨y, rfl, hy, hh⟩ := (lotsF_mem _ _ _).1 hv
    obtain ⟨x, hx, rfl⟩ := h.onto hy
    rw [hitB_to h hw.left hx] at hh
    show hasB (lotsF _ n) _ = false
    rw [lotsF_at _ hy, hitB_to h hw.right hx]
    exact hw.apart _ (hasB_iff.1 hh)
  · show (imgL _ _ _).length = (imgL _ _ _).length
    rw [imgL_len h hw.left, imgL_len h hw.right]
    exact hw.len
theorem markN_ren {n : Nat} {to : List Int} {P : List Wg} (hG : Good n P) (h : Renum n to) {x : Nat} (hx : x < n) (k : Nat) : markN (renP to n P) (toN to x : Int) k = markN P (x : Int) k := by
  by_cases hk : k < P.length
  · have e : P[k]? = some P[k] := List.getElem?_eq_getElem hk
    rw [markN_at e, markN_at (p := (imgL to n P[k].1, imgL to n P[k].2)) (by unfold renP; rw [List.getElem?_map, e]; rfl)]
    exact sd_ren h (hG.all _ (List.mem_of_getElem? e)) hx
  · rw [markN_out (P := renP to n P) (by rw [renP_length]; omega), markN_out (P := P) (by omega)]
/-- What a plan that tells keeps, of all pairs. -/
def TellsA (P : List Wg) (n : Nat) : Prop := (∀ x, x < n → ¬ (markN P (x : Int) 0 = 0 ∧ markN P (x : Int) 1 = 0 ∧ markN P (x : Int) 2 = 0)) ∧ ∀ x y, x < n → y < n → x ≠ y →
  ¬ (markN P (x : Int) 0 = markN P (y : Int) 0 ∧ markN P (x : Int) 1 = markN P (y : Int) 1 ∧ markN P (x : Int) 2 = markN P (y : Int) 2) ∧
  ¬ (markN P (x : Int) 0 = -markN P (y : Int) 0 ∧ markN P (x : Int) 1 = -markN P (y : Int) 1 ∧ markN P (x : Int) 2 = -markN P (y : Int) 2)
theorem tells_all {P : List Wg} {n : Nat} : Tells P n ↔ TellsA P n := by
  constructor
  · intro h
    refine ⟨fun x hx => (h x hx).1, fun x y hx hy hne => ?_⟩
    rcases Nat.lt_or_gt_of_ne hne with hlt | hlt
    · have := (h y hy).2 x hlt
      omega
    · have := (h x hx).2 y hlt
      omega
  · intro h x hx
    exact ⟨h.1 x hx, fun y hy => h.2 x y hx (by omega) (by omega)⟩
theorem tells_ren {n : Nat} {to : List Int} {P : List Wg} (hG : Good n P) (h : Renum n to) : tellB (renP to n P) n = tellB P n := by
  rw [Bool.eq_iff_iff, tellB_iff, tellB_iff, tells_all, tells_all]
  have e := fun x (hx : x < n) k => markN_ren hG h hx k
  constructor
  · rintro ⟨h1, h2⟩
    refine ⟨fun x hx => ?_, fun x y hx hy hne => ?_⟩
    · have := h1 (toN to x) (h.at_ hx).2
      rw [e x hx, e x hx, e x hx] at this
      exact this
    · have := h2 (toN to x) (toN to y) (h.at_ hx).2 (h.at_ hy).2 (fun hh => hne (h.inj hx hy hh))
      rw [e x hx, e x hx, e x hx, e y hy, e y hy, e y hy] at this
      exact this
  · rintro ⟨h1, h2⟩
    refine ⟨fun x' hx' => ?_, fun x' y' hx' hy' hne => ?_⟩
    · obtain ⟨x, hx, rfl⟩ := h.onto hx'
      rw [e x hx, e x hx, e x hx]
      exact h1 x hx
    · obtain ⟨x, hx, rfl⟩ := h.onto hx'
      obtain ⟨y, hy, rfl⟩ := h.onto hy'
      rw [e x hx, e x hx, e x hx, e y hy, e y hy, e y hy]
      exact h2 x y hx hy (fun hh => hne (by rw [hh]))
end Go.Proofs.Ytmckoehkekkldaa
