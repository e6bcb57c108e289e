/- Simple, where the first direction is a balance; the known answers. -/
import Derived.Test.YtfjegdejfccgaaaZM
namespace Go.Proofs.Ytfjegdejfccgaaa
open Go.RowKit

def SimpleAt (w : World) (l : List Int) (e : Ending) (w' : World) : Prop := ∃ A n c, e = .returned (.tuple #[.slice A n c, .bool true, .int .i64 0]) ∧ n = l.length ∧ Bel w w' ∧ Ints w' A l
set_option maxRecDepth 100000 in
set_option maxHeartbeats 4000000 in
theorem simple_pos (A B : Option Addr) (n c m d f : Nat) (X Y : List (List Int)) (w : World) (hS : Strk w A n B m X Y) (he : errS X Y = 0) (hfit : Fits (elF X Y) (elN X)) (hwd : n + m = (redTo (elF X Y) (elN X) 6).2.length + 1)
    (hok : SoleOK (redTo (elF X Y) (elN X) 6).1 (redTo (elF X Y) (elN X) 6).2 f) (l : Nat → Int) (hl : l = loF (soTo (redTo (elF X Y) (elN X) 6).1 (redTo (elF X Y) (elN X) 6).2 f (redTo (elF X Y) (elN X) 6).2.length)) (hlb : ∀ i, i < 6 → -1000000000000 ≤ l i ∧ l i ≤ 1000000000000) (hpos : ∀ i, i < n + m → 0 < l i) :
    Calls Try.prog 45 #[.agg #[.slice A n c, .slice B m d]] w (SimpleAt w ((List.range (n + m)).map l)) := by
  have hSt := str_of he
  have HX := Lib.hid hS.lx; have HY := Lib.hid hS.ly
  have n1 : 1 ≤ n := by rw [← HX.out]; exact hSt.x1
  have n3 : n ≤ 3 := by rw [← HX.out]; exact hSt.x3
  have m1 : 1 ≤ m := by rw [← HY.out]; exact hSt.y1
  have m3 : m ≤ 3 := by rw [← HY.out]; exact hSt.y3
  have Held := Lib.hid (fun w' (h : Bel (w.alloc (.cells #[.slice A n c, .slice B m d] 24)) w') => box_sl h)
  have he1 := hSt.e1; have he4 := hSt.e4
  have HE := Lib.hid he; have HFT := Lib.hid hfit; have HWD := Lib.hid hwd; have HOK := Lib.hid hok; have HL := Lib.hid hl; have HLB := Lib.hid hlb
  obtain ⟨N, hN⟩ : ∃ N, N = n + m := ⟨_, rfl⟩
  rw [← hN] at HWD hpos ⊢
  have HXY := Lib.hid (show N = (X ++ Y).length by rw [List.length_append, HX.out, HY.out, hN])
  have hN6 : N ≤ 6 := by omega
  have hN2 : 2 ≤ N := by omega
  have hN6i : (N : Int) ≤ 6 := by omega
  have HLL := Lib.hid (show ((List.range N).map l).length = N by simp)
  have HMIN := Lib.hid (show 0 < minI ((List.range N).map l) by
    have hne : (List.range N).map l ≠ [] := by intro e; have := congrArg List.length e; simp at this; omega
    obtain ⟨i, hi, e⟩ := List.mem_map.1 (minI_mem hne)
    rw [← e]
    exact hpos i (List.mem_range.1 hi))
  clear hSt he hfit hwd hok hl hlb hpos hN
  go_enter Try.func45, Try.ntmps45
  go_wp2_with fail
  refine (validate_any A B n c m d X Y _ (hS.bel (by (repeat (first | exact Bel.refl _ | assumption | refine Bel.drew ?_ | refine Bel.drewN ?_ _ | refine Bel.alloc ?_ _ | refine Bel.setCell ?_ (by first | omega | (simp; done) | (simp; omega) | (simp at *; omega)) _ | refine Bel.trans ?_ (by assumption)))))).mono ?_
  rintro e w1 ⟨rfl, hb1⟩
  rw [HE.out]
  obtain ⟨q0, q1⟩ := Held.out _ hb1
  have hw1 : Bel w w1 := ((Bel.refl w).alloc _).trans hb1
  go_wp2_with fail
  refine (compoundsOf_any A B n c m d X Y _ (hS.bel hw1) n1 (by omega) m1 (by omega)).mono ?_
  rintro e w2 ⟨A2, N2, c2, rfl, hN2', hb2, hT2⟩
  obtain rfl : N2 = N := by rw [hN2', ← HXY.out]
  clear q0 q1 hN2'
  obtain ⟨q0, q1⟩ := Held.out _ (hb1.trans hb2)
  go_wp2_with fail
  refine (elementLines_any A B n c m d X Y _ (hS.bel (hw1.trans hb2)) HE.out).mono ?_
  rintro e w3 ⟨g3, rfl, hb3, hM3, hg3⟩
  clear q0 q1
  go_wp2_with fail
  refine (directions_nil g3 (elN X) _ N2 f (elF X Y) _ hM3 he1 (by omega) HFT.out HWD.out HOK.out l HL.out HLB.out).mono ?_
  rintro e w4 ⟨g4, cap4, rfl, hb4, hM4⟩
  have hw4 : Bel w w4 := hw1.trans (hb2.trans (hb3.trans hb4))
  go_wp2
  go_loopw [23] (fun i wr => i = .int .i64 0 ∧ wr = w4) (fun _ _ => 0)
  case atStart => exact ⟨rfl, rfl⟩
  case round =>
    obtain ⟨rfl, rfl⟩ := hrel
    obtain ⟨c0, c1, c2', c3, c4, c5⟩ := hM4.six (j := 0) (by omega)
    simp only [Nat.zero_mul, Nat.zero_add] at c0 c1 c2' c3 c4 c5
    have e0 : twoF l 0 = l := by funext i; unfold twoF; rw [if_pos rfl]
    rw [e0] at c0 c1 c2' c3 c4 c5
    have hrow := row6 wr l 79
    have HI := Lib.hid (hrow.ints.take N2)
    have HTK := Lib.hid (show ((List.range 6).map l).take N2 = (List.range N2).map l by rw [← List.map_take, List.take_range, Nat.min_eq_left hN6])
    rw [HTK.out] at HI
    clear e0 hrow
    go_wp2_with fail
    refine (clone_any _ N2 _ ((List.range N2).map l) _ HI.out HLL.out (by omega)).mono ?_
    rintro e w5 ⟨v5, rfl, hO5, hb5⟩
    obtain ⟨A5, n5, c5', rfl, hn5, hI5⟩ := hO5.form
    obtain rfl : n5 = N2 := by rw [hn5, HLL.out]
    have HMI := Lib.hid (show minI ((List.range n5).map l) = minI ((List.range n5).map l) from rfl)
    have hmp := HMIN.out
    obtain ⟨mi, hmi⟩ : ∃ mi, mi = minI ((List.range n5).map l) := ⟨_, rfl⟩
    rw [← hmi] at hmp
    have HM := Lib.hid hmi
    clear hn5 hO5 hmi c0 c1 c2' c3 c4 c5
    go_wp2_with fail
    refine (min_any A5 n5 c5' _ _ hI5 HLL.out (by omega) (by unfold maxLen; omega)).mono ?_
    rintro e w6 ⟨rfl, rfl⟩
    rw [← HM.out]
    go_wp2
    go_ret3
    exact ⟨A5, n5, c5', rfl, HLL.out.symm, by (repeat (first | exact Bel.refl _ | assumption | refine Bel.drew ?_ | refine Bel.drewN ?_ _ | refine Bel.alloc ?_ _ | refine Bel.setCell ?_ (by first | omega | (simp; done) | (simp; omega) | (simp at *; omega)) _ | refine Bel.trans ?_ (by assumption))), hI5⟩
end Go.Proofs.Ytfjegdejfccgaaa
