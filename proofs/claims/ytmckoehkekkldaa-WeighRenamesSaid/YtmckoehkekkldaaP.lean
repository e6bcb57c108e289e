/- Plain: a plan tells exactly if Bad finds nothing. Validate's errors of Bad; Tells. -/
import Derived.Test.YtmckoehkekkldaaO
namespace Go.Proofs.Ytmckoehkekkldaa
open Go.RowKit

theorem eq3_iff {f h : Nat → Int} : eq3 f h = true ↔ (f 0 = h 0 ∧ f 1 = h 1 ∧ f 2 = h 2) := by
  unfold eq3
  simp
theorem eq3_false {f h : Nat → Int} : eq3 f h = false ↔ ¬ (f 0 = h 0 ∧ f 1 = h 1 ∧ f 2 = h 2) := by
  rw [← eq3_iff]
  simp
/-- What a plan that tells keeps, in the document's words: by the marks. -/
def Tells (P : List Wg) (n : Nat) : Prop := ∀ x, x < n → ¬ (markN P (x : Int) 0 = 0 ∧ markN P (x : Int) 1 = 0 ∧ markN P (x : Int) 2 = 0) ∧ ∀ y, y < x →
  ¬ (markN P (x : Int) 0 = markN P (y : Int) 0 ∧ markN P (x : Int) 1 = markN P (y : Int) 1 ∧ markN P (x : Int) 2 = markN P (y : Int) 2) ∧
  ¬ (markN P (x : Int) 0 = -markN P (y : Int) 0 ∧ markN P (x : Int) 1 = -markN P (y : Int) 1 ∧ markN P (x : Int) 2 = -markN P (y : Int) 2)
theorem lotN_two (x : Nat) : lotN (2 * x) = x ∧ lotN (2 * x + 1) = x := by unfold lotN; omega
theorem wayN_two (x : Nat) : wayN (2 * x) = -1 ∧ wayN (2 * x + 1) = 1 := by
  unfold wayN
  rw [if_pos (by omega), if_neg (by omega)]
  exact ⟨rfl, rfl⟩
theorem badB_same (P : List Wg) (x y : Int) : badB P x y x y = eq3 (ansN P x y) (fun _ => 0) := by unfold badB; rw [if_pos ⟨rfl, rfl⟩]
theorem badB_diff (P : List Wg) {x y u v : Int} (h : ¬ (x = u ∧ y = v)) : badB P x y u v = eq3 (ansN P x y) (ansN P u v) := by unfold badB; rw [if_neg h]
theorem noBad_tells {P : List Wg} {n : Nat} (h : NoBad P n) : Tells P n := by
  intro x hx
  refine ⟨?_, fun y hy => ⟨?_, ?_⟩⟩
  · have := h (2 * x) (2 * x) (Nat.le_refl _) (by omega)
    unfold badAt at this
    rw [badB_same, (lotN_two x).1, (wayN_two x).1, eq3_false] at this
    unfold ansN at this
    omega
  · have := h (2 * y) (2 * x) (by omega) (by omega)
    unfold badAt at this
    rw [(lotN_two x).1, (wayN_two x).1, (lotN_two y).1, (wayN_two y).1, badB_diff P (by omega), eq3_false] at this
    unfold ansN at this
    omega
  · have := h (2 * y) (2 * x + 1) (by omega) (by omega)
    unfold badAt at this
    rw [(lotN_two x).2, (wayN_two x).2, (lotN_two y).1, (wayN_two y).1, badB_diff P (by omega), eq3_false] at this
    unfold ansN at this
    omega
theorem tells_case {P : List Wg} {n : Nat} (h : Tells P n) {x u : Nat} {y v : Int} (hx : x < n) (hu : u < n) (hy : y = 1 ∨ y = -1) (hv : v = 1 ∨ v = -1) : badB P (x : Int) y (u : Int) v = false := by
  by_cases hs : (x : Int) = (u : Int) ∧ y = v
  · obtain ⟨h1, rfl⟩ := hs
    obtain rfl : x = u := by omega
    rw [badB_same, eq3_false]
    have := (h x hx).1
    unfold ansN
    rcases hy with rfl | rfl <;> omega
  · rw [badB_diff P hs, eq3_false]
    unfold ansN
    rcases Nat.lt_trichotomy x u with h1 | rfl | h1
    · have := (h u hu).2 x h1
      rcases hy with rfl | rfl <;> rcases hv with rfl | rfl <;> omega
    · have := (h x hx).1
      rcases hy with rfl | rfl <;> rcases hv with rfl | rfl <;> omega
    · have := (h x hx).2 u h1
      rcases hy with rfl | rfl <;> rcases hv with rfl | rfl <;> omega
theorem tells_noBad {P : List Wg} {n : Nat} (h : Tells P n) : NoBad P n := fun i j hij hj => tells_case h (by unfold lotN; omega) (by unfold lotN; omega) (wayN_or i) (wayN_or j)
/-- Does a plan tell? -/
def tellB (P : List Wg) (n : Nat) : Bool := (List.range n).all fun x => !(decide (markN P (x : Int) 0 = 0 ∧ markN P (x : Int) 1 = 0 ∧ markN P (x : Int) 2 = 0)) && (List.range x).all fun y =>
  !(decide (markN P (x : Int) 0 = markN P (y : Int) 0 ∧ markN P (x : Int) 1 = markN P (y : Int) 1 ∧ markN P (x : Int) 2 = markN P (y : Int) 2)) &&
  !(decide (markN P (x : Int) 0 = -markN P (y : Int) 0 ∧ markN P (x : Int) 1 = -markN P (y : Int) 1 ∧ markN P (x : Int) 2 = -markN P (y : Int) 2))
theorem tellB_iff {P : List Wg} {n : Nat} : tellB P n = true ↔ Tells P n := by
  unfold tellB Tells
  simp only [List.all_eq_true, List.mem_range, Bool.and_eq_true, Bool.not_eq_true', decide_eq_false_iff_not]
theorem badV_bool {P : List Wg} {n : Nat} {e : Ending} (h : BadV P n e) : ∃ x y u v : Int, e = .returned (.tuple #[.agg #[.int .i64 x, .int .i64 y], .agg #[.int .i64 u, .int .i64 v], .bool (!tellB P n), .int .i64 0]) := by
  rcases h with ⟨i, j, h1, h2, h3, rfl⟩ | ⟨h1, rfl⟩
  · have : tellB P n = false := by
      cases hb : tellB P n
      · rfl
      · have := tells_noBad (tellB_iff.1 hb) i j h1 h2
        rw [this] at h3
        cases h3
    exact ⟨_, _, _, _, by rw [this]; rfl⟩
  · have : tellB P n = true := tellB_iff.2 (noBad_tells h1)
    exact ⟨_, _, _, _, by rw [this]; rfl⟩

set_option maxRecDepth 100000 in
set_option maxHeartbeats 4000000 in
theorem bad_err (lo : Nat) (n : Int) (A : Option Addr) (m c : Nat) (P : List Wg) (w : World) (hR : Plan lo w A P) (hm : P.length = m) (hE : errV n P ≠ 0) :
    Calls Try.prog 59 #[.int .i64 n, .slice A m c] w fun e w' => e = .returned (.tuple #[.agg #[.int .i64 0, .int .i64 0], .agg #[.int .i64 0, .int .i64 0], .bool false, .int .i64 (errV n P)]) ∧ Bel w w' := by
  have Hm := Lib.hid hm
  have hE' : (errV n P != 0) = true := by simpa using hE
  clear hm
  generalize hv : errV n P = v at *
  have HV := Lib.hid hv
  have hr0 : Row ((w.alloc (.cells #[.int .i64 0, .int .i64 0] 24)).alloc (.cells #[.int .i64 0, .int .i64 0] 24)) w.heap.size 2 2 (fun _ => 0) := ((Row.whole w #[.int .i64 0, .int .i64 0] 24 2 (fun _ => 0) (by intro i hi; rcases (by omega : i = 0 ∨ i = 1) with rfl | rfl <;> rfl)).alloc _)
  have hr1 : Row ((w.alloc (.cells #[.int .i64 0, .int .i64 0] 24)).alloc (.cells #[.int .i64 0, .int .i64 0] 24)) (w.heap.size + 1) 2 2 (fun _ => 0) := by
    have := (Row.whole (w.alloc (.cells #[.int .i64 0, .int .i64 0] 24)) #[.int .i64 0, .int .i64 0] 24 2 (fun _ => 0) (by intro i hi; rcases (by omega : i = 0 ∨ i = 1) with rfl | rfl <;> rfl))
    rw [World.size_alloc] at this
    exact this
  clear hv
  go_enter Try.func59, Try.ntmps59
  go_wp2_with fail
  refine (validate_any lo n A m c P _ (hR.bel (by (repeat (first | exact Bel.refl _ | assumption | refine Bel.drew ?_ | refine Bel.drewN ?_ _ | refine Bel.alloc ?_ _ | refine Bel.setCell ?_ (by first | omega | (simp; done) | (simp; omega) | (simp at *; omega)) _ | refine Bel.trans ?_ (by assumption))))) Hm.out).mono ?_
  rintro e w1 ⟨rfl, hb1⟩
  rw [HV.out]
  have hk0' := (hr0.bel hb1).cells 0 (by omega); have hk1' := (hr0.bel hb1).cells 1 (by omega)
  have hk2' := (hr1.bel hb1).cells 0 (by omega); have hk3' := (hr1.bel hb1).cells 1 (by omega)
  have hz0 := (hr0.bel hb1).fz 0; have hz1 := (hr0.bel hb1).fz 1
  have hz2 := (hr1.bel hb1).fz 0; have hz3 := (hr1.bel hb1).fz 1
  have hl0 := (hr0.bel hb1).lt; have hl1 := (hr1.bel hb1).lt
  have HB := Lib.hid (two_bel (show Bel w w1 by (repeat (first | exact Bel.refl _ | assumption | refine Bel.drew ?_ | refine Bel.drewN ?_ _ | refine Bel.alloc ?_ _ | refine Bel.setCell ?_ (by first | omega | (simp; done) | (simp; omega) | (simp at *; omega)) _ | refine Bel.trans ?_ (by assumption)))) (show w.heap.size ≤ w.heap.size from Nat.le_refl _) (show w.heap.size ≤ w.heap.size + 1 by omega) 0 0 0 0)
  go_wp2
  exact bodyPost_ret (v := .tuple #[.agg #[.int .i64 0, .int .i64 0], .agg #[.int .i64 0, .int .i64 0], .bool false, .int .i64 v]) (by simp [results, Try.results59, go_sem, hk0', hk1', hk2', hk3']) rfl ⟨rfl, HB.out⟩
set_option maxRecDepth 100000 in
set_option maxHeartbeats 1000000 in
theorem tells_ok (lo n : Nat) (A : Option Addr) (m c : Nat) (P : List Wg) (w : World) (hR : Plan lo w A P) (hm : P.length = m) (hG : Good n P) :
    Calls Try.prog 49 #[.int .i64 (n : Int), .slice A m c] w fun e w' => e = .returned (.tuple #[.bool (tellB P n), .int .i64 0]) ∧ Bel w w' := by
  go_enter Try.func49, Try.ntmps49
  go_wp2_with fail
  refine (bad_ok lo n A m c P _ hR hm hG).mono ?_
  rintro e w1 ⟨hv, hb1⟩
  obtain ⟨x, y, u, v, rfl⟩ := badV_bool hv
  clear hv
  cases hb : tellB P n
  · have HBB := Lib.hid hb
    go_wp2
    exact bodyPost_ret (v := .tuple #[.bool false, .int .i64 0]) (by simp [results, Try.results49, go_sem]) rfl ⟨by rw [HBB.out], by (repeat (first | exact Bel.refl _ | assumption | refine Bel.drew ?_ | refine Bel.drewN ?_ _ | refine Bel.alloc ?_ _ | refine Bel.setCell ?_ (by first | omega | (simp; done) | (simp; omega) | (simp at *; omega)) _ | refine Bel.trans ?_ (by assumption)))⟩
  · have HBB := Lib.hid hb
    go_wp2
    exact bodyPost_ret (v := .tuple #[.bool true, .int .i64 0]) (by simp [results, Try.results49, go_sem]) rfl ⟨by rw [HBB.out], by (repeat (first | exact Bel.refl _ | assumption | refine Bel.drew ?_ | refine Bel.drewN ?_ _ | refine Bel.alloc ?_ _ | refine Bel.setCell ?_ (by first | omega | (simp; done) | (simp; omega) | (simp at *; omega)) _ | refine Bel.trans ?_ (by assumption)))⟩
set_option maxRecDepth 100000 in
set_option maxHeartbeats 1000000 in
theorem tells_err (lo : Nat) (n : Int) (A : Option Addr) (m c : Nat) (P : List Wg) (w : World) (hR : Plan lo w A P) (hm : P.length = m) (hE : errV n P ≠ 0) :
    Calls Try.prog 49 #[.int .i64 n, .slice A m c] w fun e w' => e = .returned (.tuple #[.bool false, .int .i64 (errV n P)]) ∧ Bel w w' := by
  have HE := Lib.hid hE
  go_enter Try.func49, Try.ntmps49
  go_wp2_with fail
  refine (bad_err lo n A m c P _ hR hm hE).mono ?_
  rintro e w1 ⟨rfl, hb1⟩
  have hE0 : ¬ errV n P = 0 := HE.out
  generalize hv : errV n P = v at *
  have HV := Lib.hid hv
  clear hv
  go_wp2
  exact bodyPost_ret (v := .tuple #[.bool false, .int .i64 v]) (by simp [results, Try.results49, go_sem]) rfl ⟨by rw [HV.out], by (repeat (first | exact Bel.refl _ | assumption | refine Bel.drew ?_ | refine Bel.drewN ?_ _ | refine Bel.alloc ?_ _ | refine Bel.setCell ?_ (by first | omega | (simp; done) | (simp; omega) | (simp at *; omega)) _ | refine Bel.trans ?_ (by assumption)))⟩
/-- Tells' first answer. -/
def tellV (P : List Wg) (n : Int) : Bool := if errV n P = 0 then tellB P n.toNat else false
theorem tells_any (lo : Nat) (n : Int) (A : Option Addr) (m c : Nat) (P : List Wg) (w : World) (hR : Plan lo w A P) (hm : P.length = m) :
    Calls Try.prog 49 #[.int .i64 n, .slice A m c] w fun e w' => e = .returned (.tuple #[.bool (tellV P n), .int .i64 (errV n P)]) ∧ Bel w w' := by
  by_cases h : errV n P = 0
  · obtain ⟨k, rfl, hG⟩ := errV_good h
    refine (tells_ok lo k A m c P w hR hm hG).mono ?_
    rintro e w' ⟨rfl, hb⟩
    exact ⟨by unfold tellV; rw [if_pos h, h]; rfl, hb⟩
  · refine (tells_err lo n A m c P w hR hm h).mono ?_
    rintro e w' ⟨rfl, hb⟩
    exact ⟨by unfold tellV; rw [if_neg h], hb⟩
end Go.Proofs.Ytmckoehkekkldaa
