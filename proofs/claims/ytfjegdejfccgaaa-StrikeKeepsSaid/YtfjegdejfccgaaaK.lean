/- strike: validateTimes, Elements. -/
import Derived.Test.YtfjegdejfccgaaaJ
namespace Go.Proofs.Ytfjegdejfccgaaa
open Go.RowKit

/-- Are times right? -/
def tmB (X Y : List (List Int)) (ts : List Int) : Bool := listB (-1000000) 1000000 ts ((X.length : Int) + (Y.length : Int))
/-- The error of a strike and times. -/
def errT (X Y : List (List Int)) (ts : List Int) : Int := if errS X Y = 0 then if tmB X Y ts then 0 else 1 else errS X Y
theorem errT_bad {X Y : List (List Int)} {ts : List Int} (h : errS X Y = 1) : errT X Y ts = 1 := by unfold errT; rw [h]; rfl
theorem errT_ok {X Y : List (List Int)} {ts : List Int} (h : errS X Y = 0) (k : tmB X Y ts = true) : errT X Y ts = 0 := by unfold errT; rw [if_pos h, k]; rfl
theorem errT_no {X Y : List (List Int)} {ts : List Int} (h : errS X Y = 0) (k : tmB X Y ts = false) : errT X Y ts = 1 := by unfold errT; rw [if_pos h, k]; rfl
theorem errT_cases (X Y : List (List Int)) (ts : List Int) : (errS X Y = 0 ∧ tmB X Y ts = true ∧ errT X Y ts = 0) ∨ errT X Y ts = 1 := by
  rcases errS_cases X Y with h | h
  · cases k : tmB X Y ts with
    | true => exact .inl ⟨h, rfl, errT_ok h k⟩
    | false => exact .inr (errT_no h k)
  · exact .inr (errT_bad h)
/-- Times that are right. -/
theorem tm_of {X Y : List (List Int)} {ts : List Int} (h : tmB X Y ts = true) : (∀ t ∈ ts, -1000000 ≤ t ∧ t ≤ 1000000) ∧ ts.length = X.length + Y.length := by
  obtain ⟨a, b⟩ := listB_yes h
  exact ⟨a, by omega⟩
set_option maxRecDepth 100000 in
set_option maxHeartbeats 1000000 in
theorem validateTimes_any (A B : Option Addr) (n c m d : Nat) (X Y : List (List Int)) (T : Option Addr) (t u : Nat) (ts : List Int) (w : World) (hS : Strk w A n B m X Y) (hT : Ints w T ts) (ht : ts.length = t) (hmax : t ≤ maxLen) :
    Calls Try.prog 101 #[.agg #[.slice A n c, .slice B m d], .slice T t u] w fun e w' => e = .returned (.int .i64 (errT X Y ts)) ∧ Bel w w' := by
  have Ht := Lib.hid ht
  have Held := Lib.hid (fun w' (h : Bel (w.alloc (.cells #[.slice A n c, .slice B m d] 24)) w') => box_sl h)
  clear ht
  rcases errS_cases X Y with he | he
  · have hSt := str_of he
    have HE := Lib.hid he
    have HX := Lib.hid hS.lx; have HY := Lib.hid hS.ly
    have n1 : 1 ≤ n := by rw [← HX.out]; exact hSt.x1
    have n3 : n ≤ 3 := by rw [← HX.out]; exact hSt.x3
    have m1 : 1 ≤ m := by rw [← HY.out]; exact hSt.y1
    have m3 : m ≤ 3 := by rw [← HY.out]; exact hSt.y3
    clear hSt
    cases hb : tmB X Y ts with
    | false =>
      have HB := Lib.hid hb
      have HF := Lib.hid (errT_no he hb)
      clear hb he
      go_enter Try.func101, Try.ntmps101
      go_wp2_with fail
      refine (validate_any A B n c m d X Y _ (hS.bel (by (repeat (first | exact Bel.refl _ | assumption | refine Bel.drew ?_ | refine Bel.drewN ?_ _ | refine Bel.alloc ?_ _ | refine Bel.setCell ?_ (by first | omega | (simp; done) | (simp; omega) | (simp at *; omega)) _ | refine Bel.trans ?_ (by assumption)))))).mono ?_
      rintro e w1 ⟨rfl, hb1⟩
      rw [HE.out]
      obtain ⟨q0, q1⟩ := Held.out _ hb1
      go_wp2_with fail
      refine (compoundsOf_any A B n c m d X Y _ (hS.bel (((Bel.refl w).alloc _).trans hb1)) n1 (by omega) m1 (by omega)).mono ?_
      rintro e w3 ⟨A3, n3', c3, rfl, hn3, hb3, hT3⟩
      have HN3 := Lib.hid (show (n3' : Int) = (X.length : Int) + (Y.length : Int) by rw [hn3, List.length_append]; omega)
      clear hn3 q0 q1
      go_wp2_with fail
      refine (areWithin_any T t u ts n3' (-1000000) 1000000 _ (hT.bel (((Bel.refl w).alloc _).trans (hb1.trans hb3))) Ht.out hmax).mono ?_
      rintro e w4 ⟨rfl, rfl⟩
      rw [HN3.out, show listB (-1000000) 1000000 ts ((X.length : Int) + (Y.length : Int)) = false from HB.out]
      go_wp2
      go_ret
      exact ⟨ret_int HF.out.symm, ((Bel.refl w).alloc _).trans (hb1.trans hb3)⟩
    | true =>
      have HB := Lib.hid hb
      have HF := Lib.hid (errT_ok he hb)
      clear hb he
      go_enter Try.func101, Try.ntmps101
      go_wp2_with fail
      refine (validate_any A B n c m d X Y _ (hS.bel (by (repeat (first | exact Bel.refl _ | assumption | refine Bel.drew ?_ | refine Bel.drewN ?_ _ | refine Bel.alloc ?_ _ | refine Bel.setCell ?_ (by first | omega | (simp; done) | (simp; omega) | (simp at *; omega)) _ | refine Bel.trans ?_ (by assumption)))))).mono ?_
      rintro e w1 ⟨rfl, hb1⟩
      rw [HE.out]
      obtain ⟨q0, q1⟩ := Held.out _ hb1
      go_wp2_with fail
      refine (compoundsOf_any A B n c m d X Y _ (hS.bel (((Bel.refl w).alloc _).trans hb1)) n1 (by omega) m1 (by omega)).mono ?_
      rintro e w3 ⟨A3, n3', c3, rfl, hn3, hb3, hT3⟩
      have HN3 := Lib.hid (show (n3' : Int) = (X.length : Int) + (Y.length : Int) by rw [hn3, List.length_append]; omega)
      clear hn3 q0 q1
      go_wp2_with fail
      refine (areWithin_any T t u ts n3' (-1000000) 1000000 _ (hT.bel (((Bel.refl w).alloc _).trans (hb1.trans hb3))) Ht.out hmax).mono ?_
      rintro e w4 ⟨rfl, rfl⟩
      rw [HN3.out, show listB (-1000000) 1000000 ts ((X.length : Int) + (Y.length : Int)) = true from HB.out]
      go_wp2
      go_ret
      exact ⟨ret_int HF.out.symm, ((Bel.refl w).alloc _).trans (hb1.trans hb3)⟩
  · have HE := Lib.hid he
    have HF := Lib.hid (errT_bad (ts := ts) he)
    clear he
    go_enter Try.func101, Try.ntmps101
    go_wp2_with fail
    refine (validate_any A B n c m d X Y _ (hS.bel (by (repeat (first | exact Bel.refl _ | assumption | refine Bel.drew ?_ | refine Bel.drewN ?_ _ | refine Bel.alloc ?_ _ | refine Bel.setCell ?_ (by first | omega | (simp; done) | (simp; omega) | (simp at *; omega)) _ | refine Bel.trans ?_ (by assumption)))))).mono ?_
    rintro e w1 ⟨rfl, hb1⟩
    rw [HE.out]
    go_wp2
    go_ret
    exact ⟨ret_int HF.out.symm, by (repeat (first | exact Bel.refl _ | assumption | refine Bel.drew ?_ | refine Bel.drewN ?_ _ | refine Bel.alloc ?_ _ | refine Bel.setCell ?_ (by first | omega | (simp; done) | (simp; omega) | (simp at *; omega)) _ | refine Bel.trans ?_ (by assumption)))⟩
theorem Ints.drop {w : World} {b o : Nat} {zs : List Int} (h : Ints w (some ⟨b, o, none⟩) zs) (n : Nat) : Ints w (some ⟨b, o + n, none⟩) (zs.drop n) := by
  rcases h with rfl | ⟨b', o', hA, hl, hc⟩
  · exact .inl (by simp)
  · injection hA with hA
    injection hA with e1 e2
    subst e1 e2
    refine .inr ⟨b, o + n, rfl, hl, fun j v hj => ?_⟩
    rw [List.getElem?_drop] at hj
    rw [Nat.add_assoc]
    exact hc _ v hj
/-- The sums of the elements of a side. -/
def sumL (X : List (List Int)) (ts : List Int) (E n : Nat) : List Int := (List.range E).map fun k => dotTo X ts k n
def inL (X : List (List Int)) (ts : List Int) : List Int := sumL X (ts.take X.length) (elN X) X.length
def outL (X Y : List (List Int)) (ts : List Int) : List Int := sumL Y (ts.drop X.length) (elN X) Y.length
/-- Two new lists, and no error. -/
def Two (w : World) (l k : List Int) (e : Ending) (w' : World) : Prop := ∃ A n c B m d, e = .returned (.tuple #[.slice A n c, .slice B m d, .int .i64 0]) ∧ n = l.length ∧ m = k.length ∧ Bel w w' ∧ Ints w' A l ∧ Ints w' B k
theorem slice_from (b o n c : Nat) (h : c ≠ n) : (if c = n then some (⟨b, o, none⟩ : Addr) else some ⟨b, o + n, none⟩) = some ⟨b, o + n, none⟩ := by rw [if_neg h]
set_option maxRecDepth 100000 in
set_option maxHeartbeats 1000000 in
theorem elements_ok (A B : Option Addr) (n c m d : Nat) (X Y : List (List Int)) (T : Option Addr) (t u : Nat) (ts : List Int) (w : World) (hS : Strk w A n B m X Y) (hT : Ints w T ts) (ht : ts.length = t) (htu : t ≤ u) (hmax : u ≤ maxLen)
    (he : errS X Y = 0) (hb : tmB X Y ts = true) :
    Calls Try.prog 56 #[.agg #[.slice A n c, .slice B m d], .slice T t u] w (Two w (inL X ts) (outL X Y ts)) := by
  have hSt := str_of he
  obtain ⟨tb, tl⟩ := tm_of hb
  have HX := Lib.hid hS.lx; have HY := Lib.hid hS.ly
  have n1 : 1 ≤ n := by rw [← HX.out]; exact hSt.x1
  have n3 : n ≤ 3 := by rw [← HX.out]; exact hSt.x3
  have m1 : 1 ≤ m := by rw [← HY.out]; exact hSt.y1
  have m3 : m ≤ 3 := by rw [← HY.out]; exact hSt.y3
  have htn : t = n + m := by rw [← ht, tl, HX.out, HY.out]
  have HF := Lib.hid (errT_ok he hb)
  have Ht := Lib.hid ht
  have Held := Lib.hid (fun w' (h : Bel (w.alloc (.cells #[.slice A n c, .slice B m d] 24)) w') => box_sl h)
  obtain ⟨E, hE⟩ : ∃ E, E = elN X := ⟨_, rfl⟩
  have HE := Lib.hid hE
  have e1 : 1 ≤ E := by rw [hE]; exact hSt.e1
  have e4 : E ≤ 4 := by rw [hE]; exact hSt.e4
  have HRX := Lib.hid (fun r (hr : r ∈ X) => show r.length = E from by rw [hE]; exact (hSt.rows r (by simp [hr])).1)
  have HRY := Lib.hid (fun r (hr : r ∈ Y) => show r.length = E from by rw [hE]; exact (hSt.rows r (by simp [hr])).1)
  have HBX := Lib.hid (fun r (hr : r ∈ X) => (hSt.rows r (by simp [hr])).2.1)
  have HBY := Lib.hid (fun r (hr : r ∈ Y) => (hSt.rows r (by simp [hr])).2.1)
  have HTB := Lib.hid tb
  have HIN := Lib.hid (show inL X ts = (List.range E).map fun k => dotTo X (ts.take n) k n by unfold inL sumL; rw [HX.out, hE])
  have HOUT := Lib.hid (show outL X Y ts = (List.range E).map fun k => dotTo Y (ts.drop n) k m by unfold outL sumL; rw [HX.out, HY.out, hE])
  obtain ⟨b, o, x0, rfl, hbl, _, _⟩ := hT.at_ (k := 0) (by omega)
  have hcu : u ≠ n := by omega
  have hni : (n : Int) ≤ (u : Int) := by omega
  have hnt : (n : Int) ≤ (t : Int) := by omega
  have hn0 : (0 : Int) ≤ (n : Int) := by omega
  have htui : (t : Int) ≤ (u : Int) := by omega
  have hu63 : (u : Int) ≤ 9223372036854775807 := by unfold maxLen at hmax; omega
  have HTN := Lib.hid htn
  have HL1 := Lib.hid (show (ts.take n).length = n by rw [List.length_take]; omega)
  have HL2 := Lib.hid (show (ts.drop n).length = t - n by rw [List.length_drop]; omega)
  have HTM := Lib.hid (show t - n = m by omega)
  have HT1 := Lib.hid (fun t (h : t ∈ ts.take n) => tb t (List.mem_of_mem_take h))
  have HT2 := Lib.hid (fun t (h : t ∈ ts.drop n) => tb t (List.mem_of_mem_drop h))
  clear hSt tb tl ht he hb hE htn
  go_enter Try.func56, Try.ntmps56
  go_wp2_with fail
  refine (validateTimes_any A B n c m d X Y _ t u ts _ (hS.bel (by (repeat (first | exact Bel.refl _ | assumption | refine Bel.drew ?_ | refine Bel.drewN ?_ _ | refine Bel.alloc ?_ _ | refine Bel.setCell ?_ (by first | omega | (simp; done) | (simp; omega) | (simp at *; omega)) _ | refine Bel.trans ?_ (by assumption))))) (hT.bel (by (repeat (first | exact Bel.refl _ | assumption | refine Bel.drew ?_ | refine Bel.drewN ?_ _ | refine Bel.alloc ?_ _ | refine Bel.setCell ?_ (by first | omega | (simp; done) | (simp; omega) | (simp at *; omega)) _ | refine Bel.trans ?_ (by assumption))))) Ht.out (Nat.le_trans htu hmax)).mono ?_
  rintro e w1 ⟨rfl, hb1⟩
  rw [HF.out]
  obtain ⟨q0, q1⟩ := Held.out _ hb1
  have hw1 : Bel w w1 := ((Bel.refl w).alloc _).trans hb1
  have hb0 : Bel (w.alloc (.cells #[.slice A n c, .slice B m d] 24)) w1 := hb1
  clear hb1
  go_wp2
  go_region_with (first
    | (go_at_call_of 102 (Value.slice A n c); refine (sums_any A (some ⟨b, o, none⟩) n c n u X (ts.take n) E _ ?_ ?_ HX.out HL1.out rfl n1 n3 HRX.out HBX.out HT1.out e1 e4).mono ?_; exact hS.tx.bel (by (repeat (first | exact Bel.refl _ | assumption | refine Bel.drew ?_ | refine Bel.drewN ?_ _ | refine Bel.alloc ?_ _ | refine Bel.setCell ?_ (by first | omega | (simp; done) | (simp; omega) | (simp at *; omega)) _ | refine Bel.trans ?_ (by assumption)))); exact (hT.take n).bel (by (repeat (first | exact Bel.refl _ | assumption | refine Bel.drew ?_ | refine Bel.drewN ?_ _ | refine Bel.alloc ?_ _ | refine Bel.setCell ?_ (by first | omega | (simp; done) | (simp; omega) | (simp at *; omega)) _ | refine Bel.trans ?_ (by assumption)))); rintro e w3 ⟨A3, n3', c3, rfl, hn3, hb3, hI3⟩; have HN3 := Lib.hid hn3; clear hn3; obtain ⟨q2, q3⟩ := Held.out w3 (by (repeat (first | exact Bel.refl _ | assumption | refine Bel.drew ?_ | refine Bel.drewN ?_ _ | refine Bel.alloc ?_ _ | refine Bel.setCell ?_ (by first | omega | (simp; done) | (simp; omega) | (simp at *; omega)) _ | refine Bel.trans ?_ (by assumption)))))
    | (go_at_call_of 102 (Value.slice B m d); refine (sums_any B (some ⟨b, o + n, none⟩) m d (t - n) (u - n) Y (ts.drop n) E _ ?_ ?_ HY.out HL2.out HTM.out m1 m3 HRY.out HBY.out HT2.out e1 e4).mono ?_; exact hS.ty.bel (by (repeat (first | exact Bel.refl _ | assumption | refine Bel.drew ?_ | refine Bel.drewN ?_ _ | refine Bel.alloc ?_ _ | refine Bel.setCell ?_ (by first | omega | (simp; done) | (simp; omega) | (simp at *; omega)) _ | refine Bel.trans ?_ (by assumption)))); exact (hT.drop n).bel (by (repeat (first | exact Bel.refl _ | assumption | refine Bel.drew ?_ | refine Bel.drewN ?_ _ | refine Bel.alloc ?_ _ | refine Bel.setCell ?_ (by first | omega | (simp; done) | (simp; omega) | (simp at *; omega)) _ | refine Bel.trans ?_ (by assumption)))); rintro e w4 ⟨A4, n4', c4, rfl, hn4, hb4, hI4⟩; have HN4 := Lib.hid hn4; clear hn4; obtain ⟨q4, q5⟩ := Held.out w4 (by (repeat (first | exact Bel.refl _ | assumption | refine Bel.drew ?_ | refine Bel.drewN ?_ _ | refine Bel.alloc ?_ _ | refine Bel.setCell ?_ (by first | omega | (simp; done) | (simp; omega) | (simp at *; omega)) _ | refine Bel.trans ?_ (by assumption))))))
  all_goals
    clear q0 q1 q2 q3 q4 q5
    go_wp2
    go_ret3
    exact ⟨_, _, _, _, _, _, rfl, by rw [HIN.out]; exact HN3.out, by rw [HOUT.out]; exact HN4.out, by (repeat (first | exact Bel.refl _ | assumption | refine Bel.drew ?_ | refine Bel.drewN ?_ _ | refine Bel.alloc ?_ _ | refine Bel.setCell ?_ (by first | omega | (simp; done) | (simp; omega) | (simp at *; omega)) _ | refine Bel.trans ?_ (by assumption))), by rw [HIN.out]; exact hI3.bel (by (repeat (first | exact Bel.refl _ | assumption | refine Bel.drew ?_ | refine Bel.drewN ?_ _ | refine Bel.alloc ?_ _ | refine Bel.setCell ?_ (by first | omega | (simp; done) | (simp; omega) | (simp at *; omega)) _ | refine Bel.trans ?_ (by assumption)))), by rw [HOUT.out]; exact hI4.bel (by (repeat (first | exact Bel.refl _ | assumption | refine Bel.drew ?_ | refine Bel.drewN ?_ _ | refine Bel.alloc ?_ _ | refine Bel.setCell ?_ (by first | omega | (simp; done) | (simp; omega) | (simp at *; omega)) _ | refine Bel.trans ?_ (by assumption))))⟩
end Go.Proofs.Ytfjegdejfccgaaa
