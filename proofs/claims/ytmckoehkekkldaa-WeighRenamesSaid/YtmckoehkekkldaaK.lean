/- The marks of the program. -/
import Derived.Test.YtmckoehkekkldaaJ
namespace Go.Proofs.Ytmckoehkekkldaa
open Go.RowKit

/-- One cell of a row is written. -/
theorem Row.upd1 {w : World} {g m : Nat} {f : Nat → Int} (h : Row w g m m f) {i : Nat} (hi : i < m) {x : Int} {f' : Nat → Int} (h1 : f' i = x) (h2 : ∀ j, j ≠ i → f' j = f j) : Row (w.setCell ⟨g, i, none⟩ (.int .i64 x)) g m m f' :=
  (h.put hi x).congr fun j _ => by
    by_cases e : j = i
    · subst e
      rw [if_pos rfl, h1]
    · rw [if_neg e, h2 j e]
/-- The marks as they lie: three numbers a lot. -/
def rowsF (P : List Wg) (c : Nat) : Int := markN P ((c / 3 : Nat) : Int) (c % 3)
/-- While they are written: the weighings before k are done, and so are i lots of the left of weighing k, and j of its right. -/
def mkF (P : List Wg) (k : Nat) (l r : List Int) (i j : Nat) (c : Nat) : Int :=
  if c % 3 < k then rowsF P c else if c % 3 = k then (if hasB (r.take j) ((c / 3 : Nat) : Int) = true then -1 else if hasB (l.take i) ((c / 3 : Nat) : Int) = true then 1 else 0) else 0
theorem hasB_take {l : List Int} {i : Nat} {x : Int} (hg : l[i]? = some x) (y : Int) : hasB (l.take (i + 1)) y = (hasB (l.take i) y || decide (y = x)) := by
  rw [take_at hg]
  unfold hasB
  rw [Bool.eq_iff_iff]
  simp
theorem mkF_zero (P : List Wg) (l r : List Int) (c : Nat) : mkF P 0 l r 0 0 c = 0 := by
  unfold mkF
  rw [if_neg (by omega)]
  simp [hasB]
theorem mkF_left {P : List Wg} {k : Nat} {l r : List Int} {i x : Nat} (hg : l[i]? = some (x : Int)) (hk : k < 3) :
    mkF P k l r (i + 1) 0 (x * 3 + k) = 1 ∧ ∀ c, c ≠ x * 3 + k → mkF P k l r (i + 1) 0 c = mkF P k l r i 0 c := by
  constructor
  · unfold mkF
    rw [if_neg (by omega), if_pos (by omega), hasB_take hg, show (x * 3 + k) / 3 = x from by omega]
    simp [hasB]
  · intro c hc
    unfold mkF
    by_cases h1 : c % 3 < k
    · rw [if_pos h1, if_pos h1]
    · rw [if_neg h1, if_neg h1]
      by_cases h2 : c % 3 = k
      · rw [if_pos h2, if_pos h2, hasB_take hg, decide_eq_false (show ¬ ((c / 3 : Nat) : Int) = (x : Int) by omega), Bool.or_false]
      · rw [if_neg h2, if_neg h2]
theorem mkF_right {P : List Wg} {k : Nat} {l r : List Int} {i j x : Nat} (hg : r[j]? = some (x : Int)) (hk : k < 3) :
    mkF P k l r i (j + 1) (x * 3 + k) = -1 ∧ ∀ c, c ≠ x * 3 + k → mkF P k l r i (j + 1) c = mkF P k l r i j c := by
  constructor
  · unfold mkF
    rw [if_neg (by omega), if_pos (by omega), hasB_take hg, show (x * 3 + k) / 3 = x from by omega]
    simp
  · intro c hc
    unfold mkF
    by_cases h1 : c % 3 < k
    · rw [if_pos h1, if_pos h1]
    · rw [if_neg h1, if_neg h1]
      by_cases h2 : c % 3 = k
      · rw [if_pos h2, if_pos h2, hasB_take hg, decide_eq_false (show ¬ ((c / 3 : Nat) : Int) = (x : Int) by omega), Bool.or_false]
      · rw [if_neg h2, if_neg h2]
theorem mkF_next {P : List Wg} {k : Nat} {l r : List Int} (hg : P[k]? = some (l, r)) (l' r' : List Int) (c : Nat) : mkF P (k + 1) l' r' 0 0 c = mkF P k l r l.length r.length c := by
  unfold mkF
  by_cases h1 : c % 3 < k
  · rw [if_pos h1, if_pos (by omega)]
  · by_cases h2 : c % 3 = k
    · rw [if_pos (by omega), if_neg h1, if_pos h2, List.take_length, List.take_length]
      unfold rowsF
      rw [h2, markN_at hg]
      rfl
    · rw [if_neg (by omega), if_neg h1, if_neg h2]
      by_cases h3 : c % 3 = k + 1
      · rw [if_pos h3]
        simp [hasB]
      · rw [if_neg h3]
theorem mkF_end {P : List Wg} (l r : List Int) (c : Nat) : mkF P P.length l r 0 0 c = rowsF P c := by
  unfold mkF
  by_cases h1 : c % 3 < P.length
  · rw [if_pos h1]
  · rw [if_neg h1]
    have e : rowsF P c = 0 := markN_out (by omega) _
    rw [e]
    by_cases h3 : c % 3 = P.length
    · rw [if_pos h3]
      simp [hasB]
    · rw [if_neg h3]
theorem infoMark : (Try.prog.info? 78).map (fun i => (i.zero, i.size, i.bytes)) = some (some (.agg #[.int .i64 0, .int .i64 0, .int .i64 0]), 3, 24) := by kernel_rfl
/-- Marks in memory: of n lots, at block g. -/
def Marks (w : World) (g n : Nat) (P : List Wg) : Prop := Row w g (n * 3) (n * 3) (rowsF P)
theorem madeCells_at (n c : Nat) (hc : c < n * 3) : (madeCells #[.int .i64 0, .int .i64 0, .int .i64 0] (n * 3))[c]? = some (.int .i64 0) := by
  have : c % 3 < 3 := Nat.mod_lt _ (by decide)
  simp [madeCells, hc]
  rcases (by omega : c % 3 = 0 ∨ c % 3 = 1 ∨ c % 3 = 2) with h | h | h <;> simp [h]
theorem make_marks (n : Nat) (hn : n ≤ 13) (W : World) : (Instr.makeSlice 80 (.int .i64 (n : Int)) (.int .i64 (n : Int))).run Try.prog W = .ok (.slice (some ⟨W.heap.size, 0, none⟩) n n) (W.alloc (.cells (madeCells #[.int .i64 0, .int .i64 0, .int .i64 0] (n * 3)) 78)) := by
  obtain ⟨i, hi, hzz⟩ := Option.map_eq_some_iff.1 infoMark
  simp only [Prod.mk.injEq] at hzz
  obtain ⟨hz1, hz2, hz3⟩ := hzz
  have hr := run_make (P := Try.prog) W 80 78 i _ Try.underlying80 hi hz1 .i64 .i64 n n (by omega) (Int.le_refl _) (by rw [hz3]; omega) (by omega)
  rw [hz2] at hr
  simpa [Value.cells] using hr

set_option maxRecDepth 100000 in
set_option maxHeartbeats 4000000 in
theorem marksOf_any (lo n : Nat) (A : Option Addr) (m c : Nat) (P : List Wg) (w : World) (hR : Plan lo w A P) (hm : P.length = m) (hG : Good n P) :
    Calls Try.prog 80 #[.int .i64 (n : Int), .slice A m c] w fun e w' => ∃ g, e = .returned (.slice (some ⟨g, 0, none⟩) n n) ∧ w.heap.size ≤ g ∧ Bel w w' ∧ Marks w' g n P := by
  have Hm := Lib.hid hm; have HGo := Lib.hid hG
  have hn13 := hG.le
  have hm3 : m ≤ 3 := by rw [← hm]; exact hG.few
  have hmk := make_marks n hn13
  clear hm hG
  go_enter Try.func80, Try.ntmps80
  have hrow0 : Row (w.alloc (.cells (madeCells #[.int .i64 0, .int .i64 0, .int .i64 0] (n * 3)) 78)) w.heap.size (n * 3) (n * 3) (mkF P 0 [] [] 0 0) := Row.whole _ _ _ _ _ fun i hi => by
    rw [mkF_zero]
    exact madeCells_at n i hi
  go_wp2
  clear hmk
  go_loopw [6, 7, 9, 11, 16] (fun _ _ _ _ i wr => ∃ k : Nat, k ≤ m ∧ i = .int .i64 k ∧ Bel w wr ∧ Row wr w.heap.size (n * 3) (n * 3) (mkF P k [] [] 0 0)) (fun _ _ _ _ i _ => m - (intOf i).toNat)
  case atStart => exact ⟨0, Nat.zero_le _, rfl, by (repeat (first | exact Bel.refl _ | assumption | refine Bel.drew ?_ | refine Bel.drewN ?_ _ | refine Bel.alloc ?_ _ | refine Bel.setCell ?_ (by first | omega | (simp; done) | (simp; omega) | (simp at *; omega)) _ | refine Bel.trans ?_ (by assumption))), hrow0⟩
  case round =>
    clear hrow0
    obtain ⟨k, hk, rfl, hb, hrow⟩ := hrel
    by_cases hlt : k < m
    · obtain ⟨b, o, l, r, A1, n1, c1, A2, n2, c2, rfl, hbl, hg, q1', q2', hI, hl1, hx1, hJ, hl2, hx2⟩ := hR.at_ (k := k) (by rw [Hm.out]; exact hlt)
      have hgw := HGo.out.all _ (List.mem_of_getElem? hg)
      have hin1 : n1 ≤ 13 := by have := setB_len hgw.left; simp only at this; omega
      have hin2 : n2 ≤ 13 := by have := setB_len hgw.right; simp only at this; omega
      have HL1 := Lib.hid hl1; have HL2 := Lib.hid hl2
      have HGW := Lib.hid hgw
      have HS1 : Hid (mkF P k [] [] 0 0 = mkF P k l r 0 0) := by
        show _ = _
        funext c
        rfl
      rw [HS1.out] at hrow
      have HS2 : Hid (∀ c', mkF P (k + 1) [] [] 0 0 c' = mkF P k l r l.length r.length c') := fun c' => mkF_next hg [] [] c'
      have hki : (k : Int) < (m : Int) := by omega
      have hk3 : (k : Int) < 3 := by omega
      have hk3n : k < 3 := by omega
      have hk0 : (0 : Int) ≤ (k : Int) := by omega
      have hn1i : (n1 : Int) ≤ 13 := by omega
      have hn2i : (n2 : Int) ≤ 13 := by omega
      have hwz := hrow.lt
      have q1 : wr.cell? ⟨b, o + k * 2, none⟩ = some (.slice A1 n1 c1) := by rw [hb.use.1 _ _ hbl]; exact q1'
      have q2 : wr.cell? ⟨b, o + k * 2 + 1, none⟩ = some (.slice A2 n2 c2) := by rw [hb.use.1 _ _ hbl]; exact q2'
      clear hg hl1 hl2 hgw hx1 hx2 q1' q2'
      obtain ⟨wo, hwo⟩ : ∃ wo : World, wo = wr := ⟨_, rfl⟩
      subst hwo
      go_wp2
      go_loopw [9, 24] (fun _ i wq => ∃ p : Nat, p ≤ n1 ∧ i = .int .i64 p ∧ Bel w wq ∧ wq.cell? ⟨wo.heap.size, 1, none⟩ = some (.slice A2 n2 c2) ∧ Row wq w.heap.size (n * 3) (n * 3) (mkF P k l r p 0)) (fun _ i _ => n1 - (intOf i).toNat)
      case atStart => exact ⟨0, Nat.zero_le _, rfl, by (repeat (first | exact Bel.refl _ | assumption | refine Bel.drew ?_ | refine Bel.drewN ?_ _ | refine Bel.alloc ?_ _ | refine Bel.setCell ?_ (by first | omega | (simp; done) | (simp; omega) | (simp at *; omega)) _ | refine Bel.trans ?_ (by assumption))), by simp, hrow.alloc _⟩
      case round =>
        clear hrow q1 q2
        obtain ⟨p, hp, rfl, hbp, hbox, hrow⟩ := hrel
        by_cases hpl : p < n1
        · obtain ⟨b1, o1, x, rfl, hb1l, hg1, d1'⟩ := hI.at_ (k := p) (by rw [HL1.out]; exact hpl)
          obtain ⟨x0, xn⟩ := setB_in HGW.out.left (List.mem_of_getElem? hg1)
          obtain ⟨x, rfl⟩ := Int.eq_ofNat_of_zero_le x0
          obtain ⟨z1, z2⟩ := mkF_left (P := P) (r := r) hg1 hk3n
          have Z1 := Lib.hid z1; have Z2 := Lib.hid z2
          have hpi : (p : Int) < (n1 : Int) := by omega
          have hcc := hrow.cells (x * 3 + k) (by omega)
          have hfz := hrow.fz (x * 3 + k)
          have hlt' := hrow.lt
          have d1 : wr.cell? ⟨b1, o1 + p, none⟩ = some (.int .i64 (x : Int)) := by rw [hbp.use.1 _ _ hb1l]; exact d1'
          have hin : x * 3 + k < n * 3 := by omega
          clear hg1 z1 z2 d1'
          go_wp2
          go_roundw
          case rel => exact ⟨p + 1, by omega, by go_num, by (repeat (first | exact Bel.refl _ | assumption | refine Bel.drew ?_ | refine Bel.drewN ?_ _ | refine Bel.alloc ?_ _ | refine Bel.setCell ?_ (by first | omega | (simp; done) | (simp; omega) | (simp at *; omega)) _ | refine Bel.trans ?_ (by assumption))), by rw [World.cell?_setCell_other _ _ _ _ (by simp <;> omega)]; exact hbox, hrow.upd1 hin Z1.out Z2.out⟩
          case measure => simp [intOf]; omega
        · obtain rfl : p = n1 := by omega
          go_wp2
          go_loopw [11, 37] (fun _ i wq => ∃ q : Nat, q ≤ n2 ∧ i = .int .i64 q ∧ Bel w wq ∧ Row wq w.heap.size (n * 3) (n * 3) (mkF P k l r p q)) (fun _ i _ => n2 - (intOf i).toNat)
          case atStart => exact ⟨0, Nat.zero_le _, rfl, hbp, hrow⟩
          case round =>
            clear hrow hbox
            obtain ⟨q, hq, rfl, hbq, hrow⟩ := hrel
            by_cases hql : q < n2
            · obtain ⟨b1, o1, x, rfl, hb1l, hg1, d1'⟩ := hJ.at_ (k := q) (by rw [HL2.out]; exact hql)
              obtain ⟨x0, xn⟩ := setB_in HGW.out.right (List.mem_of_getElem? hg1)
              obtain ⟨x, rfl⟩ := Int.eq_ofNat_of_zero_le x0
              obtain ⟨z1, z2⟩ := mkF_right (P := P) (l := l) (i := p) hg1 hk3n
              have Z1 := Lib.hid z1; have Z2 := Lib.hid z2
              have hpi : (q : Int) < (n2 : Int) := by omega
              have hcc := hrow.cells (x * 3 + k) (by omega)
              have hfz := hrow.fz (x * 3 + k)
              have hlt' := hrow.lt
              have d1 : wr.cell? ⟨b1, o1 + q, none⟩ = some (.int .i64 (x : Int)) := by rw [hbq.use.1 _ _ hb1l]; exact d1'
              have hin : x * 3 + k < n * 3 := by omega
              clear hg1 z1 z2 d1'
              go_wp2
              go_roundw
              case rel => exact ⟨q + 1, by omega, by go_num, by (repeat (first | exact Bel.refl _ | assumption | refine Bel.drew ?_ | refine Bel.drewN ?_ _ | refine Bel.alloc ?_ _ | refine Bel.setCell ?_ (by first | omega | (simp; done) | (simp; omega) | (simp at *; omega)) _ | refine Bel.trans ?_ (by assumption))), hrow.upd1 hin Z1.out Z2.out⟩
              case measure => simp [intOf]; omega
            · obtain rfl : q = n2 := by omega
              go_wp2
              go_roundw
              case rel => exact ⟨k + 1, by omega, by go_num, hbq, hrow.congr fun i _ => by rw [HS2.out, HL1.out, HL2.out]⟩
              case measure => simp [intOf]; omega
    · obtain rfl : k = m := by omega
      have hwz := hrow.lt
      go_wp2
      go_ret
      exact ⟨_, rfl, Nat.le_refl _, hb, hrow.congr fun i _ => by rw [← Hm.out, mkF_end]⟩
end Go.Proofs.Ytmckoehkekkldaa
