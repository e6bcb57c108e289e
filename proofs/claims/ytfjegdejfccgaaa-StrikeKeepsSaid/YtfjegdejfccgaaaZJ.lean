/- compoundLines, walked. -/
import Derived.Test.YtfjegdejfccgaaaZI
namespace Go.Proofs.Ytfjegdejfccgaaa
open Go.RowKit

def NewM (w : World) (m : Nat) (F : Nat → Nat → Int) (e : Ending) (w' : World) : Prop := ∃ g, e = .returned (.slice (some ⟨g, 0, none⟩) m m) ∧ Bel w w' ∧ Mat w' g m F ∧ w.heap.size ≤ g
set_option maxRecDepth 100000 in
set_option maxHeartbeats 4000000 in
theorem compoundLines_any (A B : Option Addr) (n c m d : Nat) (X Y : List (List Int)) (w : World) (hS : Strk w A n B m X Y) (he : errS X Y = 0) :
    Calls Try.prog 97 #[.agg #[.slice A n c, .slice B m d]] w (NewM w (n + m) (cmF X Y)) := by
  have hSt := str_of he
  have HX := Lib.hid hS.lx; have HY := Lib.hid hS.ly
  have n1 : 1 ≤ n := by rw [← HX.out]; exact hSt.x1
  have n3 : n ≤ 3 := by rw [← HX.out]; exact hSt.x3
  have m1 : 1 ≤ m := by rw [← HY.out]; exact hSt.y1
  have m3 : m ≤ 3 := by rw [← HY.out]; exact hSt.y3
  have hni : (n : Int) ≤ 3 := by omega
  have hmi : (m : Int) ≤ 3 := by omega
  have Held := Lib.hid (fun w' (h : Bel (w.alloc (.cells #[.slice A n c, .slice B m d] 24)) w') => box_sl h)
  have HRW := Lib.hid hSt.rows
  have he1 := hSt.e1; have he4 := hSt.e4
  obtain ⟨E, hE⟩ : ∃ E, E = elN X := ⟨_, rfl⟩
  rw [← hE] at HRW he1 he4
  have hE4 : (E : Int) ≤ 4 := by omega
  have HXY := Lib.hid (show (X ++ Y).length = n + m by rw [List.length_append, HX.out, HY.out])
  have HCM := Lib.hid (fun (j : Nat) (r : List Int) (hr : (X ++ Y)[j]? = some r) (e : Nat) => show cmF X Y j e = if j < n then r.getD e 0 else -(r.getD e 0) from by
    have hl := HX.out
    by_cases h : j < n
    · rw [if_pos h]
      rw [List.getElem?_append_left (by omega)] at hr
      exact cm_len (by unfold colL; rw [List.getElem?_append_left (by omega)]; exact hr) e
    · rw [if_neg h]
      rw [List.getElem?_append_right (by omega)] at hr
      rw [cm_len (r := negL r) (by unfold colL; rw [List.getElem?_append_right (by omega), List.getElem?_map, hr]; rfl) e, neg_getD])
  obtain ⟨C, hC, hmk⟩ := made6 (n + m)
  have hmk' := hmk (by omega)
  have hcast : ((n + m : Nat) : Int) = (n : Int) + (m : Int) := by omega
  rw [hcast] at hmk'
  have HMK := Lib.hid hmk'
  have HC := Lib.hid hC
  clear hSt hE he hmk hmk' hcast hC
  go_enter Try.func97, Try.ntmps97
  go_wp2_with fail
  refine (compoundsOf_far A B n c m d X Y w _ (by (repeat (first | exact Bel.refl _ | assumption | refine Bel.drew ?_ | refine Bel.drewN ?_ _ | refine Bel.alloc ?_ _ | refine Bel.setCell ?_ (by first | omega | (simp; done) | (simp; omega) | (simp at *; omega)) _ | refine Bel.trans ?_ (by assumption)))) hS n1 (by omega) m1 (by omega)).mono ?_
  rintro e w1 ⟨g1, N1, c1, rfl, hN1, hb1, hT1, hg1⟩
  obtain rfl : N1 = n + m := by rw [hN1, HXY.out]
  obtain ⟨q0, q1⟩ := Held.out _ hb1
  have hmk := HMK.out
  have hs1 : w.heap.size < w1.heap.size := by have := hb1.size; simp at this; omega
  have hw1 : Bel w w1 := ((Bel.refl w).alloc _).trans hb1
  have hM0 := mat_made (w := w1) (t := 79) HC.out
  clear hN1
  go_wp2_with fail
  refine (compoundsOf_far A B n c m d X Y w _ (hw1.alloc _) hS n1 (by omega) m1 (by omega)).mono ?_
  rintro e w3 ⟨g2, N2, c2, rfl, hN2, hb3, hT2, hg2⟩
  have hN2' : N2 = n + m := by rw [hN2, HXY.out]
  have HN2 := Lib.hid hN2'
  have hN2i : (N2 : Int) ≤ 6 := by omega
  have hN26 : N2 ≤ 6 := by omega
  have hw3 : Bel w w3 := (hw1.alloc _).trans hb3
  have hM3 := hM0.bel hb3
  have hg2' : w1.heap.size < g2 := by simp at hg2; omega
  have HM3 := Lib.hid hM3
  have hbx : Bel (w.alloc (.cells #[.slice A n c, .slice B m d] 24)) w3 := (hb1.alloc _).trans hb3
  clear hN2 hN2' hmk q0 q1 hM0 hM3 hg2
  go_wp2
  go_loopw [15] (fun i wr => ∃ q : Nat, q ≤ N2 ∧ i = .int .i64 q ∧ Mat wr w1.heap.size (n + m) (fun j e => if j < q then cmF X Y j e else 0) ∧ Bel w wr ∧ Kp w1.heap.size w3 wr) (fun i _ => N2 - (intOf i).toNat)
  case atStart => exact ⟨0, Nat.zero_le _, rfl, HM3.out.congr (fun j i _ _ => by rw [if_neg (by omega)]), hw3, Kp.refl _ _⟩
  case round =>
    clear HM3
    obtain ⟨q, hq, rfl, hM, hbw, hkp⟩ := hrel
    by_cases hlt : q < N2
    · have hqi : (q : Int) < (N2 : Int) := by omega
      have hqn : q < n + m := by have := HN2.out; omega
      obtain ⟨r, hr⟩ : ∃ r, (X ++ Y)[q]? = some r := ⟨_, List.getElem?_eq_getElem (by rw [HXY.out]; exact hqn)⟩
      obtain ⟨A', n', c', hcell, hI, hl, hmm⟩ := hT2.row q r hr
      obtain ⟨rl, rb, _⟩ := HRW.out r (List.mem_of_getElem? hr)
      obtain rfl : n' = E := by rw [← hl]; exact rl
      have hcell' : wr.cell? ⟨g2, q, none⟩ = some (.slice A' n' c') := by rw [hkp.cell (by omega) hT2.lt]; exact hcell
      have HR := Lib.hid (HCM.out q r hr)
      have HRB := Lib.hid rb
      have HL := Lib.hid hl
      have HMQ := Lib.hid (hM.congr (F := fun j e => if j < q then cmF X Y j e else 0) (G := fun j e => if j < q then cmF X Y j e else if j = q ∧ e < 0 then cmF X Y j e else 0) (fun j e _ _ => by
        by_cases h : j < q
        · rw [if_pos h, if_pos h]
        · rw [if_neg h, if_neg h, if_neg (by omega)]))
      clear hr rl rb hl hcell hM
      go_wp2
      go_loopw [22] (fun i wr => ∃ t : Nat, t ≤ n' ∧ i = .int .i64 t ∧ Mat wr w1.heap.size (n + m) (fun j e => if j < q then cmF X Y j e else if j = q ∧ e < t then cmF X Y j e else 0) ∧ Bel w wr ∧ Kp w1.heap.size w3 wr) (fun i _ => n' - (intOf i).toNat)
      case atStart => exact ⟨0, Nat.zero_le _, rfl, HMQ.out, hbw, hkp⟩
      case round =>
        clear HMQ hbw hkp hcell'
        obtain ⟨t, ht, rfl, hM, hbw, hkp⟩ := hrel
        by_cases htl : t < n'
        · have hti : (t : Int) < (n' : Int) := by omega
          obtain ⟨b3, o3, x, rfl, hb3', hg3, hc3⟩ := (hI.bel hbw).at_ (k := t) (by rw [HL.out]; exact htl)
          obtain ⟨x0, x9⟩ := HRB.out x (List.mem_of_getElem? hg3)
          have hq0 := (hkp.cell (b := w.heap.size) (by omega) (by have := hbx.size; simp at this; omega) 0).trans (Held.out _ hbx).1
          have hq1 := (hkp.cell (b := w.heap.size) (by omega) (by have := hbx.size; simp at this; omega) 1).trans (Held.out _ hbx).2
          have hcl := hM.cells q t hqn (by omega)
          have hfz := hM.fz (q * 6 + t)
          have hlt1 := hM.lt
          have hqm : (q : Int) < (n : Int) + (m : Int) := by omega
          by_cases hqx : q < n
          · have hqxi : (q : Int) < (n : Int) := by omega
            have HV := Lib.hid (show cmF X Y q t = x by rw [HR.out t, if_pos hqx, getD_at hg3])
            have HM2 := Lib.hid ((hM.put hqn (i := t) (by omega) x).congr (G := fun j e => if j < q then cmF X Y j e else if j = q ∧ e < t + 1 then cmF X Y j e else 0) (fun j e _ _ => by
              by_cases h : j = q ∧ e = t
              · obtain ⟨rfl, rfl⟩ := h
                rw [if_neg (by omega), if_pos ⟨rfl, by omega⟩, if_pos ⟨rfl, rfl⟩, HV.out]
              · rw [if_neg h]
                by_cases h2 : j < q
                · rw [if_pos h2, if_pos h2]
                · rw [if_neg h2, if_neg h2]
                  by_cases h3 : j = q ∧ e < t
                  · rw [if_pos h3, if_pos ⟨h3.1, by omega⟩]
                  · rw [if_neg h3, if_neg (by omega)]))
            have HB2 := Lib.hid (show Bel w (wr.setCell ⟨w1.heap.size, q * 6 + t, none⟩ (.int .i64 x)) from hbw.setCell (by show w.heap.size ≤ w1.heap.size; omega) _)
            have HK2 := Lib.hid (hkp.set_ (q * 6 + t) (.int .i64 x))
            clear hg3 hM hqx
            go_wp2
            go_roundw
            case rel => exact ⟨t + 1, by omega, by go_num, HM2.out, HB2.out, HK2.out⟩
            case measure => simp [intOf]; omega
          · have hqxi : (n : Int) ≤ (q : Int) := by omega
            have HV := Lib.hid (show cmF X Y q t = -x by rw [HR.out t, if_neg hqx, getD_at hg3])
            have HM2 := Lib.hid ((hM.put hqn (i := t) (by omega) (-x)).congr (G := fun j e => if j < q then cmF X Y j e else if j = q ∧ e < t + 1 then cmF X Y j e else 0) (fun j e _ _ => by
              by_cases h : j = q ∧ e = t
              · obtain ⟨rfl, rfl⟩ := h
                rw [if_neg (by omega), if_pos ⟨rfl, by omega⟩, if_pos ⟨rfl, rfl⟩, HV.out]
              · rw [if_neg h]
                by_cases h2 : j < q
                · rw [if_pos h2, if_pos h2]
                · rw [if_neg h2, if_neg h2]
                  by_cases h3 : j = q ∧ e < t
                  · rw [if_pos h3, if_pos ⟨h3.1, by omega⟩]
                  · rw [if_neg h3, if_neg (by omega)]))
            have HB2 := Lib.hid (show Bel w (wr.setCell ⟨w1.heap.size, q * 6 + t, none⟩ (.int .i64 (-x))) from hbw.setCell (by show w.heap.size ≤ w1.heap.size; omega) _)
            have HK2 := Lib.hid (hkp.set_ (q * 6 + t) (.int .i64 (-x)))
            clear hg3 hM hqx
            go_wp2
            go_roundw
            case rel => exact ⟨t + 1, by omega, by go_num, HM2.out, HB2.out, HK2.out⟩
            case measure => simp [intOf]; omega
        · obtain rfl : t = n' := by omega
          have HM2 := Lib.hid (hM.congr (G := fun j e => if j < q + 1 then cmF X Y j e else 0) (fun j e _ _ => by
            by_cases h2 : j < q
            · rw [if_pos (by omega), if_pos h2]
            · rw [if_neg h2]
              by_cases h4 : j = q
              · subst h4
                rw [if_pos (by omega)]
                by_cases h3 : e < t
                · rw [if_pos ⟨rfl, h3⟩]
                · rw [if_neg (by omega), HR.out e]
                  have e0 : r.getD e 0 = 0 := by rw [List.getD_eq_getElem?_getD, List.getElem?_eq_none (by rw [HL.out]; omega)]; rfl
                  rw [e0]
                  split <;> rfl
              · rw [if_neg (by omega), if_neg (by omega)]))
          clear hM
          go_wp2
          go_roundw
          case rel => exact ⟨q + 1, by omega, by go_num, HM2.out, hbw, hkp⟩
          case measure => simp [intOf]; omega
    · obtain rfl : q = N2 := by omega
      have HM2 := Lib.hid (hM.congr (G := cmF X Y) (fun j e hj _ => by rw [if_pos (by have := HN2.out; omega)]))
      clear hM
      go_wp2
      go_ret
      exact ⟨w1.heap.size, rfl, hbw, HM2.out, by omega⟩
end Go.Proofs.Ytfjegdejfccgaaa
