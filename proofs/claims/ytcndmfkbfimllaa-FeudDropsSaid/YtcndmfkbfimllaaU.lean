/- Sets of paints: alike, isSet, Feuds, by the program and by the document. -/
import Derived.Test.YtcndmfkbfimllaaT
namespace Go.Proofs.Ytcndmfkbfimllaa
open Go.RowKit Go.Maps

/-- Do all two of some paints have a feud (b), or have none (not b)? -/
def alikeB (G : List (Nat × Nat)) (b : Bool) (l : List Nat) : Bool := (List.range l.length).all fun i => (List.range i).all fun k => hasG G (l.getD k 0) (l.getD i 0) == b
theorem getD_at {l : List Nat} {k x : Nat} (h : l[k]? = some x) : l.getD k 0 = x := by rw [List.getD_eq_getElem?_getD, h]; rfl
theorem alike_iff {G : List (Nat × Nat)} {b : Bool} {l : List Nat} : alikeB G b l = true ↔ ∀ i k x y : Nat, k < i → l[i]? = some y → l[k]? = some x → hasG G x y = b := by
  unfold alikeB
  rw [List.all_eq_true]
  constructor
  · intro h i k x y hk hi hkk
    have h1 := h i (List.mem_range.2 (List.getElem?_eq_some_iff.1 hi).1)
    rw [List.all_eq_true] at h1
    have h2 := h1 k (List.mem_range.2 hk)
    rw [getD_at hi, getD_at hkk, beq_iff_eq] at h2
    exact h2
  · intro h i hi
    rw [List.all_eq_true]
    intro k hk
    have hi' := List.mem_range.1 hi
    have hk' := List.mem_range.1 hk
    have h1 : l[i]? = some l[i] := List.getElem?_eq_getElem hi'
    have h2 : l[k]? = some l[k] := List.getElem?_eq_getElem (Nat.lt_trans hk' hi')
    rw [getD_at h1, getD_at h2, beq_iff_eq]
    exact h i k _ _ hk' h1 h2
theorem alike_no {G : List (Nat × Nat)} {b : Bool} {l : List Nat} {i k x y : Nat} (hk : k < i) (hi : l[i]? = some y) (hkk : l[k]? = some x) (h : hasG G x y ≠ b) : alikeB G b l = false := by
  rw [Bool.eq_false_iff]
  intro e
  exact h (alike_iff.1 e i k x y hk hi hkk)
/-- All pairs before a place are alike. -/
def UpTo (G : List (Nat × Nat)) (b : Bool) (l : List Nat) (i k : Nat) : Prop := ∀ i' k' x y : Nat, k' < i' → (i' < i ∨ (i' = i ∧ k' < k)) → l[i']? = some y → l[k']? = some x → hasG G x y = b
theorem UpTo.step {G : List (Nat × Nat)} {b : Bool} {l : List Nat} {i k x y : Nat} (h : UpTo G b l i k) (hi : l[i]? = some y) (hk : l[k]? = some x) (hv : hasG G x y = b) : UpTo G b l i (k + 1) := by
  intro i' k' x' y' h1 h2 h3 h4
  rcases (by omega : (i' < i ∨ (i' = i ∧ k' < k)) ∨ (i' = i ∧ k' = k)) with h5 | ⟨rfl, rfl⟩
  · exact h i' k' x' y' h1 h5 h3 h4
  · rw [hi] at h3; rw [hk] at h4
    injection h3 with h3; injection h4 with h4
    subst h3 h4
    exact hv
theorem UpTo.next {G : List (Nat × Nat)} {b : Bool} {l : List Nat} {i : Nat} (h : UpTo G b l i i) : UpTo G b l (i + 1) 0 := fun i' k' x y h1 h2 => h i' k' x y h1 (by omega)
theorem UpTo.all {G : List (Nat × Nat)} {b : Bool} {l : List Nat} (h : UpTo G b l l.length 0) : alikeB G b l = true := alike_iff.2 fun i k x y hk hi hkk => h i k x y hk (.inl (List.getElem?_eq_some_iff.1 hi).1) hi hkk
theorem UpTo.start (G : List (Nat × Nat)) (b : Bool) (l : List Nat) : UpTo G b l 0 0 := fun i' k' x y h1 h2 => by omega

/-- The numbers are strictly ascending behind 'last', below a number. -/
def scanI (last below : Int) : List Int → Bool
  | [] => true
  | x :: r => decide (last < x) && decide (x < below) && scanI x below r
theorem scanI_step {last below x : Int} {ns : List Int} {k : Nat} (hg : ns[k]? = some x) : scanI last below (ns.drop k) = (decide (last < x) && decide (x < below) && scanI x below (ns.drop (k + 1))) := by
  rw [drop_at hg]; rfl
def setB (ns : List Int) (below : Int) : Bool := scanI (-1) below ns
set_option maxRecDepth 100000 in
set_option maxHeartbeats 2000000 in
theorem rAlike_any (p : Int) (A : Option Addr) (n c : Nat) (G : List (Nat × Nat)) (B : Option Addr) (m d : Nat) (l : List Nat) (b : Bool) (w : World) (hR : Prs w A (up G)) (hn : G.length = n) (h60 : n ≤ 900) (hI : Ints w B (upN l)) (hm : l.length = m) (h100 : m ≤ 100) :
    Calls Try.prog 104 #[.agg #[.int .i64 p, .slice A n c], .slice B m d, .bool b] w fun e w' => e = .returned (.bool (alikeB G b l)) ∧ Bel w w' := by
  have Hn := Lib.hid hn
  have Hm := Lib.hid hm
  have hmi : (m : Int) ≤ 100 := by omega
  clear hn hm
  have Held := Lib.hid (fun w' (h : Bel (w.alloc (.cells #[.int .i64 p, .slice A n c] 24)) w') => pair_box h)
  go_enter Try.func104, Try.ntmps104
  go_wp2
  go_loopw [7] (fun i wr => ∃ k : Nat, k ≤ m ∧ i = .int .i64 k ∧ Bel (w.alloc (.cells #[.int .i64 p, .slice A n c] 24)) wr ∧ UpTo G b l k 0) (fun i _ => m - (intOf i).toNat)
  case atStart => exact ⟨0, Nat.zero_le _, rfl, Bel.refl _, UpTo.start G b l⟩
  case round =>
    obtain ⟨i, him, rfl, hb, hU⟩ := hrel
    have HU := Lib.hid hU
    clear hU
    by_cases hlt : i < m
    · have hii : (i : Int) < (m : Int) := by omega
      go_wp2
      go_loopw [8] (fun q wr => ∃ k : Nat, k ≤ i ∧ q = .int .i64 k ∧ Bel (w.alloc (.cells #[.int .i64 p, .slice A n c] 24)) wr ∧ UpTo G b l i k) (fun q _ => i - (intOf q).toNat)
      case atStart => exact ⟨0, Nat.zero_le _, rfl, hb, HU.out⟩
      case round =>
        clear hb
        obtain ⟨k, hk, rfl, hb, hU⟩ := hrel
        have HU2 := Lib.hid hU
        obtain ⟨b0, b1⟩ := Held.out _ hb
        have hbw : Bel w wr := ((Bel.refl w).alloc _).trans hb
        clear hU
        by_cases hlt2 : k < i
        · have hki : (k : Int) < (i : Int) := by omega
          have hkm : (k : Int) < (m : Int) := by omega
          obtain ⟨a1, a2, y', rfl, hbl, hg, hc1⟩ := (hI.bel hbw).at_ (k := i) (by rw [upN_length, Hm.out]; exact hlt)
          obtain ⟨a3, a4, x', hA, hbl2, hg2, hc2⟩ := (hI.bel hbw).at_ (k := k) (by rw [upN_length, Hm.out]; omega)
          injection hA with hA; injection hA with e1 e2 e3; subst e1 e2
          obtain ⟨y, hy, rfl⟩ := upN_at hg
          obtain ⟨x, hx, rfl⟩ := upN_at hg2
          have HY := Lib.hid hy; have HX := Lib.hid hx
          obtain ⟨v, hv⟩ : ∃ v, v = hasG G x y := ⟨_, rfl⟩
          have HV := Lib.hid hv
          have held2 := Lib.hid (fun w' (h : Bel wr w') => And.intro (Held.out w' (hb.trans h)) (And.intro (show w'.cell? ⟨a1, a2 + i, none⟩ = some (.int .i64 (y : Int)) by rw [h.use.1 _ _ hbl]; exact hc1) (show w'.cell? ⟨a1, a2 + k, none⟩ = some (.int .i64 (x : Int)) by rw [h.use.1 _ _ hbl]; exact hc2)))
          clear hg hg2 hy hx hv
          by_cases hvb : v = b
          · subst hvb
            have HU3 := Lib.hid (HU2.out.step HY.out HX.out HV.out.symm)
            go_wp2
            go_region_held3 (fun w' => Bel wr w' ∧ (w'.cell? ⟨w.heap.size, 0, none⟩ = some (.int .i64 p) ∧ w'.cell? ⟨w.heap.size, 1, none⟩ = some (.slice A n c)) ∧ w'.cell? ⟨a1, a2 + i, none⟩ = some (.int .i64 (y : Int)) ∧ w'.cell? ⟨a1, a2 + k, none⟩ = some (.int .i64 (x : Int))) (exact ⟨by (repeat (first | exact Bel.refl _ | assumption | refine Bel.drew ?_ | refine Bel.drewN ?_ _ | refine Bel.alloc ?_ _ | refine Bel.setCell ?_ (by first | omega | (simp; done) | (simp; omega) | (simp at *; omega)) _ | refine Bel.trans ?_ (by assumption))), held2.out _ (by (repeat (first | exact Bel.refl _ | assumption | refine Bel.drew ?_ | refine Bel.drewN ?_ _ | refine Bel.alloc ?_ _ | refine Bel.setCell ?_ (by first | omega | (simp; done) | (simp; omega) | (simp at *; omega)) _ | refine Bel.trans ?_ (by assumption))))⟩)
              (first | (go_at_call 81; refine (rFeud_any p A n c G x y _ (hR.bel (hbw.trans (by (repeat (first | exact Bel.refl _ | assumption | refine Bel.drew ?_ | refine Bel.drewN ?_ _ | refine Bel.alloc ?_ _ | refine Bel.setCell ?_ (by first | omega | (simp; done) | (simp; omega) | (simp at *; omega)) _ | refine Bel.trans ?_ (by assumption)))))) Hn.out h60).mono ?_; rintro e w2 ⟨rfl, hb2⟩; rw [← HV.out]))
            all_goals
              go_wp2
              go_roundw
              case rel => exact ⟨k + 1, by omega, by go_num, by (repeat (first | exact Bel.refl _ | assumption | refine Bel.drew ?_ | refine Bel.drewN ?_ _ | refine Bel.alloc ?_ _ | refine Bel.setCell ?_ (by first | omega | (simp; done) | (simp; omega) | (simp at *; omega)) _ | refine Bel.trans ?_ (by assumption))), HU3.out⟩
              case measure => simp [intOf]; omega
          · have hvn : (v == b) = false := by simpa using hvb
            have HF := Lib.hid (alike_no (b := b) hlt2 HY.out HX.out (by rw [← HV.out]; exact hvb))
            clear hvb
            go_wp2
            go_region_held3 (fun w' => Bel wr w' ∧ (w'.cell? ⟨w.heap.size, 0, none⟩ = some (.int .i64 p) ∧ w'.cell? ⟨w.heap.size, 1, none⟩ = some (.slice A n c)) ∧ w'.cell? ⟨a1, a2 + i, none⟩ = some (.int .i64 (y : Int)) ∧ w'.cell? ⟨a1, a2 + k, none⟩ = some (.int .i64 (x : Int))) (exact ⟨by (repeat (first | exact Bel.refl _ | assumption | refine Bel.drew ?_ | refine Bel.drewN ?_ _ | refine Bel.alloc ?_ _ | refine Bel.setCell ?_ (by first | omega | (simp; done) | (simp; omega) | (simp at *; omega)) _ | refine Bel.trans ?_ (by assumption))), held2.out _ (by (repeat (first | exact Bel.refl _ | assumption | refine Bel.drew ?_ | refine Bel.drewN ?_ _ | refine Bel.alloc ?_ _ | refine Bel.setCell ?_ (by first | omega | (simp; done) | (simp; omega) | (simp at *; omega)) _ | refine Bel.trans ?_ (by assumption))))⟩)
              (first | (go_at_call 81; refine (rFeud_any p A n c G x y _ (hR.bel (hbw.trans (by (repeat (first | exact Bel.refl _ | assumption | refine Bel.drew ?_ | refine Bel.drewN ?_ _ | refine Bel.alloc ?_ _ | refine Bel.setCell ?_ (by first | omega | (simp; done) | (simp; omega) | (simp at *; omega)) _ | refine Bel.trans ?_ (by assumption)))))) Hn.out h60).mono ?_; rintro e w2 ⟨rfl, hb2⟩; rw [← HV.out]))
            all_goals
              go_wp2
              go_ret
              exact ⟨ret_bool HF.out.symm, by (repeat (first | exact Bel.refl _ | assumption | refine Bel.drew ?_ | refine Bel.drewN ?_ _ | refine Bel.alloc ?_ _ | refine Bel.setCell ?_ (by first | omega | (simp; done) | (simp; omega) | (simp at *; omega)) _ | refine Bel.trans ?_ (by assumption)))⟩
        · obtain rfl : k = i := by omega
          have HU3 := Lib.hid HU2.out.next
          go_wp2
          go_roundw
          case rel => exact ⟨k + 1, by omega, by go_num, hb, HU3.out⟩
          case measure => simp [intOf]; omega
    · obtain rfl : i = m := by omega
      have HF := Lib.hid (show alikeB G b l = true by have := HU.out; rw [← Hm.out] at this; exact this.all)
      go_wp2
      go_ret
      exact ⟨ret_bool HF.out.symm, by (repeat (first | exact Bel.refl _ | assumption | refine Bel.drew ?_ | refine Bel.drewN ?_ _ | refine Bel.alloc ?_ _ | refine Bel.setCell ?_ (by first | omega | (simp; done) | (simp; omega) | (simp at *; omega)) _ | refine Bel.trans ?_ (by assumption)))⟩
end Go.Proofs.Ytcndmfkbfimllaa
