/- elementLines, walked. -/
import Derived.Test.YtfjegdejfccgaaaZJ
namespace Go.Proofs.Ytfjegdejfccgaaa
open Go.RowKit

set_option maxRecDepth 100000 in
set_option maxHeartbeats 4000000 in
theorem elementLines_any (A B : Option Addr) (n c m d : Nat) (X Y : List (List Int)) (w : World) (hS : Strk w A n B m X Y) (he : errS X Y = 0) :
    Calls Try.prog 77 #[.agg #[.slice A n c, .slice B m d]] w (NewM w (elN X) (elF X Y)) := by
  have hSt := str_of he
  have HX := Lib.hid hS.lx; have HY := Lib.hid hS.ly
  have n1 : 1 ≤ n := by rw [← HX.out]; exact hSt.x1
  have n3 : n ≤ 3 := by rw [← HX.out]; exact hSt.x3
  have m1 : 1 ≤ m := by rw [← HY.out]; exact hSt.y1
  have m3 : m ≤ 3 := by rw [← HY.out]; exact hSt.y3
  have hni : (n : Int) ≤ 3 := by omega
  have hmi : (m : Int) ≤ 3 := by omega
  have Held := Lib.hid (fun w' (h : Bel (w.alloc (.cells #[.slice A n c, .slice B m d] 24)) w') => box_sl h)
  have he1 := hSt.e1; have he4 := hSt.e4
  have HE0 := Lib.hid he
  have HOUT := Lib.hid (fun j (h : n + m ≤ j) => cm_out (X := X) (Y := Y) (j := j) (by rw [HX.out, HY.out]; exact h))
  obtain ⟨E, hE⟩ : ∃ E, E = elN X := ⟨_, rfl⟩
  rw [← hE] at he1 he4 ⊢
  have HE := Lib.hid hE
  have hE4 : (E : Int) ≤ 4 := by omega
  obtain ⟨C, hC, hmk⟩ := made6 E
  have HMK := Lib.hid (hmk (by omega))
  have HC := Lib.hid hC
  clear hSt hE he hmk hC
  go_enter Try.func77, Try.ntmps77
  go_wp2_with fail
  refine (elementsOf_any A B n c m d X _ (hS.tx.bel (by (repeat (first | exact Bel.refl _ | assumption | refine Bel.drew ?_ | refine Bel.drewN ?_ _ | refine Bel.alloc ?_ _ | refine Bel.setCell ?_ (by first | omega | (simp; done) | (simp; omega) | (simp at *; omega)) _ | refine Bel.trans ?_ (by assumption))))) HX.out n1).mono ?_
  rintro e w1 ⟨rfl, hb1⟩
  rw [← HE.out]
  obtain ⟨q0, q1⟩ := Held.out _ hb1
  have hmk := HMK.out
  have hs1 : w.heap.size < w1.heap.size := by have := hb1.size; simp at this; omega
  have hw1 : Bel w w1 := ((Bel.refl w).alloc _).trans hb1
  have hM0 := mat_made (w := w1) (t := 79) HC.out
  go_wp2_with fail
  refine (compoundLines_any A B n c m d X Y _ (hS.bel (hw1.alloc _)) HE0.out).mono ?_
  rintro e w3 ⟨g3, rfl, hb3, hM3, hg3⟩
  have hw3 : Bel w w3 := (hw1.alloc _).trans hb3
  have HMM := Lib.hid (hM0.bel hb3)
  have HM3 := Lib.hid hM3
  have hg13 : w1.heap.size < g3 := by simp at hg3; omega
  clear hmk q0 q1 hM0 hM3 hg3
  go_wp2
  go_loopw [13] (fun i wr => ∃ q : Nat, q ≤ n + m ∧ i = .int .i64 q ∧ Mat wr w1.heap.size E (fun j i => if i < q then elF X Y j i else 0) ∧ Mat wr g3 (n + m) (cmF X Y) ∧ Bel w wr) (fun i _ => n + m - (intOf i).toNat)
  case atStart => exact ⟨0, Nat.zero_le _, rfl, HMM.out.congr (fun j i _ _ => by rw [if_neg (by omega)]), HM3.out, hw3⟩
  case round =>
    clear HMM HM3
    obtain ⟨q, hq, rfl, hM, hM3, hbw⟩ := hrel
    by_cases hlt : q < n + m
    · have hqi : (q : Int) < (n : Int) + (m : Int) := by omega
      obtain ⟨c0, c1, c2, c3, c4, c5⟩ := hM3.six (j := q) hlt
      have hrow := row6 wr (cmF X Y q) 79
      have HMQ := Lib.hid ((hM.bel ((Bel.refl wr).alloc (.cells #[.int .i64 (cmF X Y q 0), .int .i64 (cmF X Y q 1), .int .i64 (cmF X Y q 2), .int .i64 (cmF X Y q 3), .int .i64 (cmF X Y q 4), .int .i64 (cmF X Y q 5)] 79))).congr (F := fun j i => if i < q then elF X Y j i else 0) (G := fun j i => if i < q then elF X Y j i else if i = q ∧ j < 0 then elF X Y j i else 0) (fun j e _ _ => by
        by_cases h : e < q
        · rw [if_pos h, if_pos h]
        · rw [if_neg h, if_neg h, if_neg (by omega)]))
      have HM3Q := Lib.hid (hM3.bel ((Bel.refl wr).alloc (.cells #[.int .i64 (cmF X Y q 0), .int .i64 (cmF X Y q 1), .int .i64 (cmF X Y q 2), .int .i64 (cmF X Y q 3), .int .i64 (cmF X Y q 4), .int .i64 (cmF X Y q 5)] 79)))
      have hpl : w1.heap.size < wr.heap.size := hM.lt
      have hp3 : g3 < wr.heap.size := hM3.lt
      obtain ⟨p, hp⟩ : ∃ p, p = wr.heap.size := ⟨_, rfl⟩
      obtain ⟨wo, hwo⟩ : ∃ wo, wo = wr.alloc (.cells #[.int .i64 (cmF X Y q 0), .int .i64 (cmF X Y q 1), .int .i64 (cmF X Y q 2), .int .i64 (cmF X Y q 3), .int .i64 (cmF X Y q 4), .int .i64 (cmF X Y q 5)] 79) := ⟨_, rfl⟩
      have hbo : Bel w wo := by rw [hwo]; exact hbw.alloc _
      have HWO := Lib.hid hwo
      have HROW := Lib.hid hrow
      rw [← hwo] at HMQ HM3Q HROW
      have HPP := Lib.hid hp
      clear hM hM3 hwo hrow hp
      go_wp2
      rw [← HWO.out, ← HPP.out]
      rw [← HPP.out] at HROW hpl hp3
      go_loopw [20] (fun i wr => ∃ t : Nat, t ≤ E ∧ i = .int .i64 t ∧ Mat wr w1.heap.size E (fun j i => if i < q then elF X Y j i else if i = q ∧ j < t then elF X Y j i else 0) ∧ Mat wr g3 (n + m) (cmF X Y) ∧ Row wr p 6 6 (cmF X Y q) ∧ Bel w wr) (fun i _ => E - (intOf i).toNat)
      case atStart => exact ⟨0, Nat.zero_le _, rfl, HMQ.out, HM3Q.out, HROW.out, hbo⟩
      case round =>
        clear HMQ HM3Q HROW hbo
        obtain ⟨t, ht, rfl, hM, hM3, hrow, hbw⟩ := hrel
        by_cases htl : t < E
        · have hti : (t : Int) < (E : Int) := by omega
          have hcx := hrow.cells t (by omega)
          have hcl := hM.cells t q htl (by omega)
          have hfz := hM.fz (t * 6 + q)
          have hlt1 := hM.lt
          have hlt2 := hrow.lt
          have hq6 : (q : Int) < 6 := by omega
          have ht6 : (t : Int) < 6 := by omega
          have HM2 := Lib.hid ((hM.put htl (i := q) (by omega) (cmF X Y q t)).congr (G := fun j i => if i < q then elF X Y j i else if i = q ∧ j < t + 1 then elF X Y j i else 0) (fun j i _ _ => by
            by_cases h : j = t ∧ i = q
            · obtain ⟨rfl, rfl⟩ := h
              rw [if_neg (by omega), if_pos ⟨rfl, by omega⟩, if_pos ⟨rfl, rfl⟩]
              rfl
            · rw [if_neg h]
              by_cases h2 : i < q
              · rw [if_pos h2, if_pos h2]
              · rw [if_neg h2, if_neg h2]
                by_cases h3 : i = q ∧ j < t
                · rw [if_pos h3, if_pos ⟨h3.1, by omega⟩]
                · rw [if_neg h3, if_neg (by omega)]))
          have HM3' := Lib.hid (hM3.far (p := ⟨w1.heap.size, t * 6 + q, none⟩) (by show g3 ≠ w1.heap.size; omega) (.int .i64 (cmF X Y q t)))
          have HR' := Lib.hid (hrow.far (p := ⟨w1.heap.size, t * 6 + q, none⟩) (by show p ≠ w1.heap.size; omega) (.int .i64 (cmF X Y q t)))
          have HB2 := Lib.hid (show Bel w (wr.setCell ⟨w1.heap.size, t * 6 + q, none⟩ (.int .i64 (cmF X Y q t))) from hbw.setCell (by show w.heap.size ≤ w1.heap.size; omega) _)
          clear hM hM3 hrow
          go_wp2
          go_region
          go_wp2
          go_roundw
          case rel => exact ⟨t + 1, by omega, by go_num, HM2.out.bel ((Bel.refl _).drew), HM3'.out.bel ((Bel.refl _).drew), HR'.out.drew, HB2.out.drew⟩
          case measure => simp [intOf]; omega
        · obtain rfl : t = E := by omega
          have HM2 := Lib.hid (hM.congr (G := fun j i => if i < q + 1 then elF X Y j i else 0) (fun j i hj _ => by
            by_cases h2 : i < q
            · rw [if_pos (by omega), if_pos h2]
            · rw [if_neg h2]
              by_cases h4 : i = q
              · rw [if_pos (by omega), if_pos ⟨h4, hj⟩]
              · rw [if_neg (by omega), if_neg (by omega)]))
          clear hM
          go_wp2
          go_roundw
          case rel => exact ⟨q + 1, by omega, by go_num, HM2.out, hM3, hbw⟩
          case measure => simp [intOf]; omega
    · obtain rfl : q = n + m := by omega
      have HM2 := Lib.hid (hM.congr (G := elF X Y) (fun j i _ _ => by
        by_cases h : i < n + m
        · rw [if_pos h]
        · rw [if_neg h]; exact HOUT.out i (by omega) j))
      clear hM
      go_wp2
      go_ret
      exact ⟨w1.heap.size, rfl, hbw, HM2.out, by omega⟩
end Go.Proofs.Ytfjegdejfccgaaa
