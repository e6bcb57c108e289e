/- Grade and State: the document's and the program's. -/
import Derived.Test.YtjcompmmjcefhaaKL
namespace Go.Proofs.Ytjcompmmjcefhaa
open Go.RowKit

/-- How many grades have no answer against them, or at most one. -/
def zA (L : List An) (g : Nat) : Nat := (leftL L g 0).length
def zB (L : List An) (g : Nat) : Nat := (leftL L g 1).length
theorem zA_snoc (L : List An) (k : Nat) : zA L (k + 1) = zA L k + if cntI L k ≤ 0 then 1 else 0 := by
  unfold zA
  rw [leftL_snoc, List.length_append]
  split <;> rfl
theorem zB_snoc (L : List An) (k : Nat) : zB L (k + 1) = zB L k + if cntI L k ≤ 1 then 1 else 0 := by
  unfold zB
  rw [leftL_snoc, List.length_append]
  split <;> rfl
theorem z_bd (L : List An) (k : Nat) : zA L k ≤ zB L k ∧ zB L k ≤ k := by
  induction k with
  | zero => exact ⟨Nat.le_refl _, Nat.le_refl _⟩
  | succ k ih =>
    rw [zA_snoc, zB_snoc]
    split <;> split <;> omega
theorem wState_err (g : Int) (A : Option Addr) (n c : Nat) (L : List An) (w : World) (hR : Ans w A L) (hn : L.length = n) (hmax : n ≤ maxLen) (he : errA g L ≠ 0) :
    Calls Try.prog 19 #[.int .i64 g, .slice A n c] w fun e w' => e = .returned (.tuple #[.int .i64 0, .int .i64 0, .int .i64 (errA g L)]) ∧ Bel w w' := by
  have hne : (errA g L != 0) = true := by simpa using he
  go_enter Try.func19, Try.ntmps19
  go_wp2_with fail
  refine (validate_any g A n c L _ hR hn hmax).mono ?_
  rintro e w1 ⟨rfl, hb1⟩
  go_wp2
  go_ret3
  exact ⟨rfl, hb1⟩
/-- While the state is counted. -/
structure StC (w wr : World) (a d : Int) : Prop where
  bel : Bel w wr
  sz : w.heap.size + 1 < wr.heap.size
  c0 : wr.cell? ⟨w.heap.size + 1, 0, none⟩ = some (.int .i64 a)
  c1 : wr.cell? ⟨w.heap.size + 1, 1, none⟩ = some (.int .i64 d)
  f0 : wr.frozen? ⟨w.heap.size + 1, 0, none⟩ = false
  f1 : wr.frozen? ⟨w.heap.size + 1, 1, none⟩ = false
  r0 : wr.cell? ⟨w.heap.size, 0, none⟩ = some (.int .i64 0)
  r1 : wr.cell? ⟨w.heap.size, 1, none⟩ = some (.int .i64 0)
  f2 : wr.frozen? ⟨w.heap.size, 0, none⟩ = false
  f3 : wr.frozen? ⟨w.heap.size, 1, none⟩ = false
theorem StC.set0 {w wr : World} {a d : Int} (h : StC w wr a d) (x : Int) : StC w (wr.setCell ⟨w.heap.size + 1, 0, none⟩ (.int .i64 x)) x d := by
  refine ⟨h.bel.setCell (by simp) _, by simpa [World.setCell] using h.sz, World.cell?_setCell_same _ _ _ h.c0, ?_, ?_, ?_, ?_, ?_, ?_, ?_⟩
  · rw [World.cell?_setCell_other _ _ _ _ (by simp)]; exact h.c1
  · rw [World.frozen?_setCell]; exact h.f0
  · rw [World.frozen?_setCell]; exact h.f1
  · rw [World.cell?_setCell_other _ _ _ _ (by simp)]; exact h.r0
  · rw [World.cell?_setCell_other _ _ _ _ (by simp)]; exact h.r1
  · rw [World.frozen?_setCell]; exact h.f2
  · rw [World.frozen?_setCell]; exact h.f3
theorem StC.set1 {w wr : World} {a d : Int} (h : StC w wr a d) (x : Int) : StC w (wr.setCell ⟨w.heap.size + 1, 1, none⟩ (.int .i64 x)) a x := by
  refine ⟨h.bel.setCell (by simp) _, by simpa [World.setCell] using h.sz, ?_, World.cell?_setCell_same _ _ _ h.c1, ?_, ?_, ?_, ?_, ?_, ?_⟩
  · rw [World.cell?_setCell_other _ _ _ _ (by simp)]; exact h.c0
  · rw [World.frozen?_setCell]; exact h.f0
  · rw [World.frozen?_setCell]; exact h.f1
  · rw [World.cell?_setCell_other _ _ _ _ (by simp)]; exact h.r0
  · rw [World.cell?_setCell_other _ _ _ _ (by simp)]; exact h.r1
  · rw [World.frozen?_setCell]; exact h.f2
  · rw [World.frozen?_setCell]; exact h.f3
theorem stored2 {w : World} {g : Nat} {a b x y : Value} (h0 : w.cell? ⟨g, 0, none⟩ = some a) (h1 : w.cell? ⟨g, 1, none⟩ = some b) :
    (w.setCell ⟨g, 0, none⟩ x).cell? ⟨g, 0, none⟩ = some x ∧ ((w.setCell ⟨g, 0, none⟩ x).setCell ⟨g, 1, none⟩ y).cell? ⟨g, 1, none⟩ = some y := by
  refine ⟨World.cell?_setCell_same _ _ _ h0, World.cell?_setCell_same _ _ _ (u := b) ?_⟩
  rw [World.cell?_setCell_other _ _ _ _ (by simp)]; exact h1
def dI (L : List An) (k : Nat) : Int := ((zB L k : Nat) : Int) - ((zA L k : Nat) : Int)

set_option maxRecDepth 100000 in
set_option maxHeartbeats 2000000 in
theorem stateOf_any (g b0 : Nat) (L : List An) (w : World) (hr : Row w b0 g g (cntI L)) (hg : g ≤ 16) (_hl : L.length ≤ 12) :
    Calls Try.prog 42 #[.slice (some ⟨b0, 0, none⟩) g g] w fun e w' => e = .returned (.agg #[.int .i64 ((zA L g : Nat) : Int), .int .i64 (dI L g)]) ∧ Bel w w' := by
  have hgi : (g : Int) ≤ 16 := by omega
  have hb0 := hr.lt
  generalize hAA : ((zA L g : Nat) : Int) = a0
  generalize hDD : dI L g = d0
  have HAA := Lib.hid hAA; have HDD := Lib.hid hDD
  clear hAA hDD
  go_enter Try.func42, Try.ntmps42
  go_wp2
  go_loopw [8] (fun i wr => ∃ k : Nat, k ≤ g ∧ i = .int .i64 k ∧ StC w wr ((zA L k : Nat) : Int) (dI L k)) (fun i _ => g - (intOf i).toNat)
  case atStart => exact ⟨0, Nat.zero_le _, rfl, ⟨by (repeat (first | exact Bel.refl _ | assumption | refine Bel.drew ?_ | refine Bel.drewN ?_ _ | refine Bel.alloc ?_ _ | refine Bel.setCell ?_ (by first | omega | (simp; done) | (simp; omega) | (simp at *; omega)) _ | refine Bel.trans ?_ (by assumption))), by simp, by go_simp; rfl, by go_simp; rfl, by go_simp, by go_simp, by go_simp, by go_simp, by go_simp, by go_simp⟩⟩
  case round =>
    obtain ⟨k, hk, rfl, hS⟩ := hrel
    have hz := z_bd L k
    by_cases hlt : k < g
    · have hcell := (hr.bel hS.bel).cells k hlt
      have hbd := cntI_bd L k
      have hkg : (k : Int) < (g : Int) := by omega
      have hA := zA_snoc L k
      have hB := zB_snoc L k
      have hD : dI L k = ((zB L k : Nat) : Int) - ((zA L k : Nat) : Int) := rfl
      have hD' : dI L (k + 1) = ((zB L (k + 1) : Nat) : Int) - ((zA L (k + 1) : Nat) : Int) := rfl
      obtain ⟨v, hv⟩ : ∃ v, v = cntI L k := ⟨_, rfl⟩
      rw [← hv] at hcell hbd hA hB
      obtain ⟨a, ha⟩ : ∃ a : Int, a = ((zA L k : Nat) : Int) := ⟨_, rfl⟩
      obtain ⟨d, hd⟩ : ∃ d : Int, d = dI L k := ⟨_, rfl⟩
      have hab : 0 ≤ a ∧ a ≤ 16 := by omega
      have hdb : 0 ≤ d ∧ d ≤ 16 := by omega
      obtain ⟨a1, a2⟩ := hab
      obtain ⟨d1, d2⟩ := hdb
      rw [← ha, ← hd] at hS
      have c0 := hS.c0
      have c1 := hS.c1
      have f0 := hS.f0
      have f1 := hS.f1
      by_cases hv0 : v = 0
      · have HA : Hid (a + 1 = ((zA L (k + 1) : Nat) : Int)) := by show _ = _; rw [hA, if_pos (by omega)]; omega
        have HD : Hid (d = dI L (k + 1)) := by show _ = _; rw [hD', hA, hB, if_pos (show v ≤ 1 by omega), if_pos (show v ≤ 0 by omega)]; omega
        clear hA hB hD hD' hv ha hd hz hbd
        subst hv0
        go_wp2
        go_roundw
        case rel => exact ⟨k + 1, by omega, by go_num, by rw [← HA.out, ← HD.out]; exact hS.set0 _⟩
        case measure => simp [intOf]; omega
      · by_cases hv1 : v = 1
        · have HA : Hid (a = ((zA L (k + 1) : Nat) : Int)) := by show _ = _; rw [hA, if_neg (by omega)]; omega
          have HD : Hid (d + 1 = dI L (k + 1)) := by show _ = _; rw [hD', hA, hB, if_neg (show ¬ v ≤ 0 by omega), if_pos (show v ≤ 1 by omega)]; omega
          clear hA hB hD hD' hv ha hd hz hbd
          subst hv1
          go_wp2
          go_roundw
          case rel => exact ⟨k + 1, by omega, by go_num, by rw [← HA.out, ← HD.out]; exact hS.set1 _⟩
          case measure => simp [intOf]; omega
        · have HA : Hid (a = ((zA L (k + 1) : Nat) : Int)) := by show _ = _; rw [hA, if_neg (by omega)]; omega
          have HD : Hid (d = dI L (k + 1)) := by show _ = _; rw [hD', hA, hB, if_neg (show ¬ v ≤ 0 by omega), if_neg (show ¬ v ≤ 1 by omega)]; omega
          have e0 : (v == 0) = false := by simpa using hv0
          have e1 : (v == 1) = false := by simpa using hv1
          clear hA hB hD hD' hv ha hd hz hbd hv0 hv1
          go_wp2
          go_roundw
          case rel => exact ⟨k + 1, by omega, by go_num, by rw [← HA.out, ← HD.out]; exact hS⟩
          case measure => simp [intOf]; omega
    · obtain rfl : k = g := by omega
      rw [HAA.out, HDD.out] at hS
      have c0 := hS.c0
      have c1 := hS.c1
      have r0 := hS.r0
      have r1 := hS.r1
      have f2 := hS.f2
      have f3 := hS.f3
      obtain ⟨q0, q1⟩ := stored2 (x := .int .i64 a0) (y := .int .i64 d0) r0 r1
      have hbel := hS.bel
      clear hz
      go_wp2
      exact bodyPost_ret (v := .agg #[.int .i64 a0, .int .i64 d0]) (by simp [results, Try.results42, go_sem, q0, q1]) rfl ⟨rfl, by (repeat (first | exact Bel.refl _ | assumption | refine Bel.drew ?_ | refine Bel.drewN ?_ _ | refine Bel.alloc ?_ _ | refine Bel.setCell ?_ (by first | omega | (simp; done) | (simp; omega) | (simp at *; omega)) _ | refine Bel.trans ?_ (by assumption)))⟩
theorem wState_ok (g : Nat) (A : Option Addr) (n c : Nat) (L : List An) (w : World) (hR : Ans w A L) (hn : L.length = n) (hmax : n ≤ maxLen) (he : errA (g : Int) L = 0) :
    Calls Try.prog 19 #[.int .i64 (g : Int), .slice A n c] w fun e w' => e = .returned (.tuple #[.int .i64 ((zA L g : Nat) : Int), .int .i64 (dI L g), .int .i64 0]) ∧ Bel w w' := by
  obtain ⟨⟨g1, g2⟩, h12, _⟩ := errA_zero he
  have HE := Lib.hid he
  have HLL := Lib.hid h12
  have Hn := Lib.hid hn; have HX := Lib.hid hmax
  rw [hn] at h12
  generalize hAA : ((zA L g : Nat) : Int) = a0
  generalize hDD : dI L g = d0
  have HAA := Lib.hid hAA; have HDD := Lib.hid hDD
  clear hAA hDD he hn hmax
  go_enter Try.func19, Try.ntmps19
  go_wp2_with fail
  refine (validate_any g A n c L _ hR Hn.out HX.out).mono ?_
  rintro e w1 ⟨rfl, hb1⟩
  rw [HE.out]
  go_wp2_with fail
  refine (against_any g A n c L _ (hR.bel hb1) Hn.out h12 (by omega)).mono ?_
  rintro e w2 ⟨b, rfl, hbw, hb2, hr2⟩
  go_wp2_with fail
  refine (stateOf_any g b L _ hr2 (by omega) HLL.out).mono ?_
  rintro e w3 ⟨rfl, hb3⟩
  rw [HAA.out, HDD.out]
  go_wp2
  go_quiet (fail)
  go_wp2
  go_ret3
  exact ⟨rfl, by (repeat (first | exact Bel.refl _ | assumption | refine Bel.drew ?_ | refine Bel.drewN ?_ _ | refine Bel.alloc ?_ _ | refine Bel.setCell ?_ (by first | omega | (simp; done) | (simp; omega) | (simp at *; omega)) _ | refine Bel.trans ?_ (by assumption)))⟩
end Go.Proofs.Ytjcompmmjcefhaa

