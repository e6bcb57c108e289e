/- reduced, walked. -/
import Derived.Test.YtfjegdejfccgaaaZG
namespace Go.Proofs.Ytfjegdejfccgaaa
open Go.RowKit

/-- All lines that reduced meets are not too large. -/
def Fits (F : Nat → Nat → Int) (m : Nat) : Prop := ∀ c, c ≤ 6 → ∀ j, j < m → Fit ((redTo F m c).1 j)
def RedAt (w : World) (m : Nat) (F : Nat → Nat → Int) (e : Ending) (w' : World) : Prop := ∃ g cap A n c, e = .returned (.tuple #[.slice (some ⟨g, 0, none⟩) m cap, .slice A n c]) ∧ Bel w w' ∧ Mat w' g m (redTo F m 6).1 ∧ w.heap.size ≤ g ∧ n = (redTo F m 6).2.length ∧ Ints w' A (redTo F m 6).2
set_option maxRecDepth 100000 in
set_option maxHeartbeats 4000000 in
theorem reduced_any (g0 m c0 : Nat) (F : Nat → Nat → Int) (w : World) (hM : Mat w g0 m F) (h1 : 1 ≤ m) (hm : m ≤ 20) (hfit : Fits F m) :
    Calls Try.prog 98 #[.slice (some ⟨g0, 0, none⟩) m c0] w (RedAt w m F) := by
  obtain ⟨i1, hj, hy0, hy1, hy2⟩ := info_parts info1I
  have HFT := Lib.hid hfit
  have HTL := Lib.hid (redTo_len F m)
  have hmi : (m : Int) ≤ 20 := by omega
  clear hfit
  go_enter Try.func98, Try.ntmps98
  go_wp2_with fail
  refine (cloneL_any g0 m c0 F _ hM h1 hm).mono ?_
  rintro e w1 ⟨g, cap, rfl, hb1, hmc, hcm, hO⟩
  have hcapi : (m : Int) ≤ (cap : Int) := by omega
  have hcap63 : (cap : Int) ≤ 9223372036854775807 := by unfold maxLen at hcm; omega
  have hg := (World.ownsRow.lt hO g rfl)
  have hR0 : RI w w1 g m w1.heap.size (redTo F m 0).1 (.slice none 0 0) (redTo F m 0).2 := ⟨hb1, mat_own hO rfl, Own1.nil _ _ _, hg.2, Nat.le_refl _, hg.1⟩
  have HR0 := Lib.hid hR0
  clear hO hg hR0
  go_wp2
  go_loopw [4, 12] (fun v i wr => ∃ k : Nat, k ≤ 6 ∧ i = .int .i64 k ∧ RI w wr g m w1.heap.size (redTo F m k).1 v (redTo F m k).2) (fun _ i _ => 6 - (intOf i).toNat)
  case atStart => exact ⟨0, by omega, rfl, HR0.out⟩
  case round =>
    clear HR0
    obtain ⟨k, hk, rfl, hR⟩ := hrel
    have hfk := HFT.out k hk
    obtain ⟨l1, l2⟩ := HTL.out k
    by_cases hlt : k < 6
    · have hki : (k : Int) < 6 := by omega
      obtain ⟨A4, row, c4, rfl, hrow, hI4⟩ := hR.own.form
      rw [← hrow] at l1 l2
      have HROW := Lib.hid hrow
      have hrm : (row : Int) ≤ (m : Int) := by omega
      have HN := Lib.hid (show (redTo F m (k + 1)) = redS m (redTo F m k) k from rfl)
      have HSN := Lib.hid (fun h => redS_no (m := m) (S := redTo F m k) (c := k) h)
      have HSY := Lib.hid (fun b h => redS_yes (m := m) (S := redTo F m k) (c := k) (b := b) h)
      have HFB := Lib.hid (findB_in (redTo F m k).1 k row (m - row))
      rw [← hrow] at HSN HSY
      obtain ⟨G, hG⟩ : ∃ G, G = (redTo F m k).1 := ⟨_, rfl⟩
      obtain ⟨cols, hcols⟩ : ∃ cols, cols = (redTo F m k).2 := ⟨_, rfl⟩
      rw [← hG] at hR hfk HSN HSY HFB
      rw [← hcols] at hR hI4
      have HG := Lib.hid hG; have HC := Lib.hid hcols
      have HFK := Lib.hid hfk
      clear hrow hG hcols hfk hI4
      obtain ⟨p, hp⟩ : ∃ p, p = wr.heap.size := ⟨_, rfl⟩
      have hbx : Bel wr (wr.alloc (.cells #[.int .i64 (k : Int)] 3)) := by (repeat (first | exact Bel.refl _ | assumption | refine Bel.drew ?_ | refine Bel.drewN ?_ _ | refine Bel.alloc ?_ _ | refine Bel.setCell ?_ (by first | omega | (simp; done) | (simp; omega) | (simp at *; omega)) _ | refine Bel.trans ?_ (by assumption)))
      have hRx := hR.beL hbx
      have hpx : (wr.alloc (.cells #[.int .i64 (k : Int)] 3)).cell? ⟨wr.heap.size, 0, none⟩ = some (.int .i64 (k : Int)) := by go_simp
      have hcr : row ≤ cap := by omega
      by_cases hcc : cap = row
      · subst hcc
        have hmr : m = cap := by omega
        have HMR := Lib.hid (show m - cap = 0 by omega)
        clear hmr
        go_wp2_with fail
        refine (indexFunc_any g m 0 0 0 wr.heap.size k G _ hRx.mat (by omega) hm hlt (by simp) hpx).mono ?_
        rintro e w2 ⟨rfl, hb2⟩
        have hf : findB G k 0 0 = -1 := rfl
        rw [hf]
        have hS := Lib.hid (HSN.out (by rw [HMR.out]; show (-1 : Int) < 0; omega))
        clear hf hpx
        go_wp2
        go_roundw
        case rel => exact ⟨k + 1, by omega, by go_num, by rw [HN.out, hS.out, ← HG.out, ← HC.out]; exact hRx.beL hb2⟩
        case measure => simp [intOf]; omega
      · have hcri : (row : Int) ≤ (cap : Int) := by omega
        go_wp2_with fail
        refine (indexFunc_any g m row (m - row) (cap - row) wr.heap.size k G _ hRx.mat (by omega) hm hlt (by simp) hpx).mono ?_
        rintro e w2 ⟨rfl, hb2⟩
        rcases HFB.out with hf | ⟨hf0, hf1⟩
        · rw [hf]
          have hS := Lib.hid (HSN.out (by rw [hf]; decide))
          clear hf hpx
          go_wp2
          go_roundw
          case rel => exact ⟨k + 1, by omega, by go_num, by rw [HN.out, hS.out, ← HG.out, ← HC.out]; exact hRx.beL hb2⟩
          case measure => simp [intOf]; omega
        · obtain ⟨b, hb⟩ : ∃ b : Nat, findB G k row (m - row) = (b : Int) := ⟨_, (Int.toNat_of_nonneg hf0).symm⟩
          have hS := Lib.hid (HSY.out b hb)
          rw [hb] at hf1 ⊢
          have hbm : row + b < m := by omega
          have hbi : (b : Int) ≤ 20 := by omega
          have hb0 : (0 : Int) ≤ (b : Int) := by omega
          clear hb hf0
          have hR2 := hRx.beL hb2
          have hp2 : w2.cell? ⟨wr.heap.size, 0, none⟩ = some (.int .i64 (k : Int)) := by rw [hb2.use.1 _ _ (by simp)]; exact hpx
          clear hpx
          go_wp2_with fail
          rw [show ((row : Int) + (b : Int)) = ((row + b : Nat) : Int) by omega]
          refine (exchange_any g m m cap row (row + b) G _ hR2.mat (Nat.le_refl _) hm (by omega) hbm).mono ?_
          rintro e w3 ⟨rfl, hw3⟩
          have hR3 := hR2.swap (a := row) (b := row + b) (by omega) hbm hw3
          have hgp : wr.heap.size ≠ g := by have := hR.bs; have := hR.gb; omega
          have hp3 := swapped_cell hw3 hgp hp2
          have hs3 : wr.heap.size < w3.heap.size := by
            rw [swapped_size hw3]
            have := hb2.size
            simp at this
            omega
          obtain ⟨P, hP⟩ : ∃ P, P = wr.heap.size := ⟨_, rfl⟩
          have hfS : Hid (∀ j, j < m → Fit (swapF G row (row + b) j)) := fun j hj => by
            unfold swapF
            split
            · exact HFK.out row (by omega)
            · split
              · exact HFK.out (row + b) hbm
              · exact HFK.out j hj
          obtain ⟨SW, hSW⟩ : ∃ SW, SW = swapF G row (row + b) := ⟨_, rfl⟩
          rw [← hSW] at hR3 hfS hS
          have HSW := Lib.hid hSW
          rw [← hP] at hp3 hs3 hgp ⊢
          clear hw3 hR2 hp2 hRx hbx hR hP hSW hb2 hf1
          go_wp2
          go_loopw [32] (fun i wr => ∃ q : Nat, q ≤ m ∧ i = .int .i64 q ∧ RI w wr g m w1.heap.size (midF SW (elimF SW row k) q) (.slice A4 row c4) cols ∧ wr.cell? ⟨P, 0, none⟩ = some (.int .i64 (k : Int)) ∧ P < wr.heap.size) (fun i _ => m - (intOf i).toNat)
          case atStart => exact ⟨0, Nat.zero_le _, rfl, by rw [midF_zero]; exact hR3, hp3, hs3⟩
          case round =>
            clear hR3 hp3 hs3
            obtain ⟨q, hq, rfl, hRq, hpq, hsq⟩ := hrel
            by_cases hql : q < m
            · have hqi : (q : Int) < (m : Int) := by omega
              obtain ⟨c0', c1', c2', c3', c4', c5'⟩ := hRq.mat.six (j := q) hql
              rw [midF_at] at c0' c1' c2' c3' c4' c5'
              by_cases hqr : q = row
              · have HM2 := Lib.hid (midF_same (S := SW) (E := elimF SW row k) (q := q) (by rw [hqr, elim_row]))
                have hqr2 : ((q : Int) != (row : Int)) = false := by simpa using (show (q : Int) = (row : Int) by omega)
                have hqr3 : (q != row) = false := by simpa using hqr
                clear hqr
                go_wp2
                go_roundw
                case rel => exact ⟨q + 1, by omega, by go_num, by rw [HM2.out]; exact hRq.beL (by (repeat (first | exact Bel.refl _ | assumption | refine Bel.drew ?_ | refine Bel.drewN ?_ _ | refine Bel.alloc ?_ _ | refine Bel.setCell ?_ (by first | omega | (simp; done) | (simp; omega) | (simp at *; omega)) _ | refine Bel.trans ?_ (by assumption)))), by rw [((Bel.refl _).alloc _).use.1 _ _ hsq]; exact hpq, by simp; omega⟩
                case measure => simp [intOf]; omega
              · have hqr2 : ((q : Int) != (row : Int)) = true := by simpa using (show ¬ (q : Int) = (row : Int) by omega)
                have hqr3 : (q != row) = true := by simpa using hqr
                have HEQ := Lib.hid (elim_at SW (c := k) hqr)
                have HM2 := Lib.hid (midF_next SW (elimF SW row k) q)
                rw [HEQ.out] at HM2
                obtain ⟨d0, d1, d2, d3, d4, d5⟩ := hRq.mat.six (j := row) (by omega)
                rw [midF_keep (elim_row SW row k)] at d0 d1 d2 d3 d4 d5
                have hrowm : (row : Int) < (m : Int) := by omega
                have hgl : g < wr.heap.size := hRq.mat.lt
                clear hqr
                go_wp2
                have HKQ := Lib.hid (fun w' (h : Bel wr w') => (hRq.beL h))
                have HPQ := Lib.hid (fun w' (h : Bel wr w') => show w'.cell? ⟨P, 0, none⟩ = some (.int .i64 (k : Int)) from by rw [h.use.1 _ _ hsq]; exact hpq)
                go_region_with (go_at_call 124; refine (cleared_any (SW q) (SW row) k _ (hfS.out q hql) (hfS.out row (by omega)) hlt).mono ?_; rintro e w5 ⟨rfl, hb5⟩; have hbw5 : Bel wr w5 := (by (repeat (first | exact Bel.refl _ | assumption | refine Bel.drew ?_ | refine Bel.drewN ?_ _ | refine Bel.alloc ?_ _ | refine Bel.setCell ?_ (by first | omega | (simp; done) | (simp; omega) | (simp at *; omega)) _ | refine Bel.trans ?_ (by assumption)))); obtain ⟨x0, x1, x2, x3, x4, x5⟩ := (HKQ.out _ hbw5).mat.six (j := q) hql; have zz := (HKQ.out _ hbw5).mat.fz; have z0 := zz (q * 6); have z1 := zz (q * 6 + 1); have z2 := zz (q * 6 + 2); have z3 := zz (q * 6 + 3); have z4 := zz (q * 6 + 4); have z5 := zz (q * 6 + 5); clear zz)
                all_goals
                  have HR9 := Lib.hid (((HKQ.out _ hbw5).put hql (loF (clD (SW q) (SW row) k))))
                  rw [HM2.out] at HR9
                  have hP9 : P ≠ g := hgp
                  have HP9 := Lib.hid (show (putL w5 g q (loF (clD (SW q) (SW row) k))).cell? ⟨P, 0, none⟩ = some (.int .i64 (k : Int)) from (World.cell?_of_block (w := w5) (a := ⟨P, 0, none⟩) (putL_heap _ _ _ _ _ hP9)).trans (HPQ.out _ hbw5))
                  have HS9 := Lib.hid (show P < (putL w5 g q (loF (clD (SW q) (SW row) k))).heap.size by rw [putL_size]; exact Nat.lt_of_lt_of_le hsq hbw5.size)
                  clear x0 x1 x2 x3 x4 x5 z0 z1 z2 z3 z4 z5 c0' c1' c2' c3' c4' c5' d0 d1 d2 d3 d4 d5
                  go_wp2
                  go_roundw
                  case rel => exact ⟨q + 1, by omega, by go_num, HR9.out, HP9.out, HS9.out⟩
                  case measure => simp [intOf]; omega
            · obtain rfl : q = m := by omega
              have hRE := hRq.congr (G' := elimF SW row k) (fun j i hj _ => by unfold midF; rw [if_pos hj])
              have hcl : cols.length = row := HC.out ▸ HROW.out.symm
              have hOl := hRE.own
              unfold Own1 at hOl
              rw [hcl] at hOl
              have HOL := Lib.hid hOl
              have HRE := Lib.hid hRE
              have HCL := Lib.hid hcl
              have hX1 := Lib.hid (show row + 1 ≤ maxLen by unfold maxLen; omega)
              have hX2 := Lib.hid (show (row + 1) * 8 ≤ 140737488355328 by omega)
              have hbz := hRq.bs
              clear hOl hRE hcl hRq
              go_wp2_with (at_builtin; go_loud (refine wpList_append_lies _ rfl (.tmp 51) (.tmp 53) 28 rfl w1.heap.size 3 i1 _ 1 8 Try.underlying28 hj hy0 hy1 hy2 rfl (by decide) (.slice A4 row c4) row _ (by rfl) (World.ownsRow.alloc HOL.out _) ⟨wr.heap.size, 0, none⟩ 1 1 [.int .i64 (k : Int)] (by rfl) rfl (new1 _ _ _ _ rfl) (one1 _) (by omega) hX1.out hX2.out (by simp <;> omega) _ rfl ?_); intro g5 cap5 w5 hown5 hgr5 hat5 hlt5)
              have HR9 := Lib.hid (HRE.out.snoc ((Bel.refl wr).alloc _) (by rw [HCL.out]; exact hown5) hgr5)
              clear hown5 hgr5 hat5 hlt5
              go_roundw
              case rel => exact ⟨k + 1, by omega, by go_num, by rw [HN.out, hS.out, ← HC.out]; exact HR9.out⟩
              case measure => simp [intOf]; omega
    · obtain rfl : k = 6 := by omega
      obtain ⟨A4, n4, c4, rfl, hn4, hI4⟩ := hR.own.form
      have HN4 := Lib.hid hn4
      have HI4 := Lib.hid hI4
      clear hn4 hI4
      go_wp2
      go_ret2
      exact ⟨g, cap, A4, n4, c4, rfl, hR.bel, hR.mat, hR.lo, HN4.out, HI4.out⟩
end Go.Proofs.Ytfjegdejfccgaaa
