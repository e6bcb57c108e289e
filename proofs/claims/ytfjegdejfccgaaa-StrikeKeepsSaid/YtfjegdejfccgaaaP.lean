/- Balances by both. -/
import Derived.Test.YtfjegdejfccgaaaO
namespace Go.Proofs.Ytfjegdejfccgaaa
open Go.RowKit

theorem getD_take {l : List Int} {n i : Nat} (h : i < n) : (l.take n).getD i 0 = l.getD i 0 := by
  rw [List.getD_eq_getElem?_getD, List.getD_eq_getElem?_getD, List.getElem?_take, if_pos h]
theorem getD_drop (l : List Int) (n i : Nat) : (l.drop n).getD i 0 = l.getD (n + i) 0 := by
  rw [List.getD_eq_getElem?_getD, List.getD_eq_getElem?_getD, List.getElem?_drop]
theorem dot_col_x {X Y : List (List Int)} {ts : List Int} (k : Nat) : ∀ i, i ≤ X.length → dotTo (colL X Y) ts k i = dotTo X (ts.take X.length) k i
  | 0, _ => rfl
  | i + 1, h => by
    have ih := dot_col_x (X := X) (Y := Y) (ts := ts) k i (by omega)
    have e1 : (colL X Y).getD i [] = X.getD i [] := by
      unfold colL
      rw [List.getD_eq_getElem?_getD, List.getD_eq_getElem?_getD, List.getElem?_append_left (by omega)]
    simp only [dotTo]
    rw [ih, e1, getD_take (by omega)]
theorem neg_getD (r : List Int) (k : Nat) : (negL r).getD k 0 = -(r.getD k 0) := by
  unfold negL
  rw [List.getD_eq_getElem?_getD, List.getD_eq_getElem?_getD, List.getElem?_map]
  cases r[k]? <;> simp
theorem dot_col {X Y : List (List Int)} {ts : List Int} (k : Nat) : ∀ q, q ≤ Y.length → dotTo (colL X Y) ts k (X.length + q) = dotTo X (ts.take X.length) k X.length - dotTo Y (ts.drop X.length) k q
  | 0, _ => by rw [Nat.add_zero, dot_col_x k X.length (Nat.le_refl _)]; simp [dotTo]
  | q + 1, h => by
    have ih := dot_col (X := X) (Y := Y) (ts := ts) k q (by omega)
    have e1 : (colL X Y).getD (X.length + q) [] = negL (Y.getD q []) := by
      unfold colL
      rw [List.getD_eq_getElem?_getD, List.getD_eq_getElem?_getD, List.getElem?_append_right (by omega), Nat.add_sub_cancel_left, List.getElem?_map]
      cases Y[q]? <;> rfl
    rw [← Nat.add_assoc]
    simp only [dotTo]
    rw [ih, e1, getD_drop, neg_getD, Int.neg_mul]
    omega
theorem bal_eq {X Y : List (List Int)} {ts : List Int} : decide (inL X ts = outL X Y ts) = balB X Y ts := by
  rw [Bool.eq_iff_iff, decide_eq_true_iff]
  unfold inL outL sumL balB
  rw [List.all_eq_true]
  constructor
  · intro h e he
    have := List.map_inj_left.1 h e he
    rw [dot_col e Y.length (Nat.le_refl _), this]
    simp
  · intro h
    refine List.map_inj_left.2 fun e he => ?_
    have := h e he
    rw [dot_col e Y.length (Nat.le_refl _)] at this
    simp at this
    omega
def balV (X Y : List (List Int)) (ts : List Int) : Bool := decide (errT X Y ts = 0) && balB X Y ts
theorem balV_ok {X Y : List (List Int)} {ts : List Int} (h : errT X Y ts = 0) : balV X Y ts = balB X Y ts := by unfold balV; rw [h]; rfl
theorem balV_no {X Y : List (List Int)} {ts : List Int} (h : errT X Y ts = 1) : balV X Y ts = false := by unfold balV; rw [h]; rfl
theorem ret_be {a b : Bool} {x y : Int} (h : a = b) (k : x = y) : Ending.returned (.tuple #[.bool a, .int .i64 x]) = .returned (.tuple #[.bool b, .int .i64 y]) := by rw [h, k]
set_option maxRecDepth 100000 in
set_option maxHeartbeats 1000000 in
theorem rBalances_any (A B : Option Addr) (n c m d : Nat) (X Y : List (List Int)) (T : Option Addr) (t u : Nat) (ts : List Int) (w : World) (hS : Strk w A n B m X Y) (hT : Ints w T ts) (ht : ts.length = t) (hmax : t ≤ maxLen) :
    Calls Try.prog 42 #[.agg #[.slice A n c, .slice B m d], .slice T t u] w fun e w' => e = .returned (.tuple #[.bool (balV X Y ts), .int .i64 (errT X Y ts)]) ∧ Bel w w' := by
  have Ht := Lib.hid ht
  have Held := Lib.hid (fun w' (h : Bel (w.alloc (.cells #[.slice A n c, .slice B m d] 24)) w') => box_sl h)
  clear ht
  rcases errT_cases X Y ts with ⟨he, hb, hz⟩ | hz
  · have HZ := Lib.hid hz
    have HE := Lib.hid he; have HB := Lib.hid hb
    have HV := Lib.hid (balV_ok hz)
    clear he hb hz
    go_enter Try.func42, Try.ntmps42
    go_wp2_with fail
    refine (timed_any A B n c m d X Y T t u ts _ (hS.bel (by (repeat (first | exact Bel.refl _ | assumption | refine Bel.drew ?_ | refine Bel.drewN ?_ _ | refine Bel.alloc ?_ _ | refine Bel.setCell ?_ (by first | omega | (simp; done) | (simp; omega) | (simp at *; omega)) _ | refine Bel.trans ?_ (by assumption))))) (hT.bel (by (repeat (first | exact Bel.refl _ | assumption | refine Bel.drew ?_ | refine Bel.drewN ?_ _ | refine Bel.alloc ?_ _ | refine Bel.setCell ?_ (by first | omega | (simp; done) | (simp; omega) | (simp at *; omega)) _ | refine Bel.trans ?_ (by assumption))))) Ht.out hmax).mono ?_
    rintro e w1 ⟨rfl, hb1⟩
    rw [HZ.out]
    obtain ⟨q0, q1⟩ := Held.out _ hb1
    go_wp2_with fail
    refine (rbalances_any A B n c m d X Y T t u ts _ (hS.bel (((Bel.refl w).alloc _).trans hb1)) (hT.bel (((Bel.refl w).alloc _).trans hb1)) Ht.out HE.out HB.out).mono ?_
    rintro e w2 ⟨rfl, hb2⟩
    rw [← HV.out]
    go_wp2
    go_ret2
    exact ⟨ret_be rfl HZ.out.symm, by (repeat (first | exact Bel.refl _ | assumption | refine Bel.drew ?_ | refine Bel.drewN ?_ _ | refine Bel.alloc ?_ _ | refine Bel.setCell ?_ (by first | omega | (simp; done) | (simp; omega) | (simp at *; omega)) _ | refine Bel.trans ?_ (by assumption)))⟩
  · have HZ := Lib.hid hz
    have HV := Lib.hid (balV_no hz)
    clear hz
    go_enter Try.func42, Try.ntmps42
    go_wp2_with fail
    refine (timed_any A B n c m d X Y T t u ts _ (hS.bel (by (repeat (first | exact Bel.refl _ | assumption | refine Bel.drew ?_ | refine Bel.drewN ?_ _ | refine Bel.alloc ?_ _ | refine Bel.setCell ?_ (by first | omega | (simp; done) | (simp; omega) | (simp at *; omega)) _ | refine Bel.trans ?_ (by assumption))))) (hT.bel (by (repeat (first | exact Bel.refl _ | assumption | refine Bel.drew ?_ | refine Bel.drewN ?_ _ | refine Bel.alloc ?_ _ | refine Bel.setCell ?_ (by first | omega | (simp; done) | (simp; omega) | (simp at *; omega)) _ | refine Bel.trans ?_ (by assumption))))) Ht.out hmax).mono ?_
    rintro e w1 ⟨rfl, hb1⟩
    rw [HZ.out]
    go_wp2
    go_ret2
    exact ⟨ret_be HV.out.symm HZ.out.symm, by (repeat (first | exact Bel.refl _ | assumption | refine Bel.drew ?_ | refine Bel.drewN ?_ _ | refine Bel.alloc ?_ _ | refine Bel.setCell ?_ (by first | omega | (simp; done) | (simp; omega) | (simp at *; omega)) _ | refine Bel.trans ?_ (by assumption)))⟩
theorem ret_t3 {a b : Value} {x y : Int} (h : x = y) : Ending.returned (.tuple #[a, b, .int .i64 x]) = .returned (.tuple #[a, b, .int .i64 y]) := by rw [h]
/-- Elements: two lists, and the error. -/
def inV (X Y : List (List Int)) (ts : List Int) : List Int := if errT X Y ts = 0 then inL X ts else []
def outV (X Y : List (List Int)) (ts : List Int) : List Int := if errT X Y ts = 0 then outL X Y ts else []
def Three (w : World) (l k : List Int) (x : Int) (e : Ending) (w' : World) : Prop := ∃ A n c B m d, e = .returned (.tuple #[.slice A n c, .slice B m d, .int .i64 x]) ∧ n = l.length ∧ m = k.length ∧ Bel w w' ∧ Ints w' A l ∧ Ints w' B k
set_option maxRecDepth 100000 in
set_option maxHeartbeats 1000000 in
theorem elements_any (A B : Option Addr) (n c m d : Nat) (X Y : List (List Int)) (T : Option Addr) (t u : Nat) (ts : List Int) (w : World) (hS : Strk w A n B m X Y) (hT : Ints w T ts) (ht : ts.length = t) (htu : t ≤ u) (hmax : u ≤ maxLen) :
    Calls Try.prog 56 #[.agg #[.slice A n c, .slice B m d], .slice T t u] w (Three w (inV X Y ts) (outV X Y ts) (errT X Y ts)) := by
  rcases errT_cases X Y ts with ⟨he, hb, hz⟩ | hz
  · refine (elements_ok A B n c m d X Y T t u ts w hS hT ht htu hmax he hb).mono ?_
    rintro e w' ⟨A1, n1, c1, A2, n2, c2, rfl, h1, h2, h3, h4, h5⟩
    have e1 : inV X Y ts = inL X ts := by unfold inV; rw [if_pos hz]
    have e2 : outV X Y ts = outL X Y ts := by unfold outV; rw [if_pos hz]
    exact ⟨A1, n1, c1, A2, n2, c2, by rw [hz], by rw [e1]; exact h1, by rw [e2]; exact h2, h3, by rw [e1]; exact h4, by rw [e2]; exact h5⟩
  · have HZ := Lib.hid hz
    have HV1 := Lib.hid (show inV X Y ts = [] by unfold inV; rw [hz]; rfl)
    have HV2 := Lib.hid (show outV X Y ts = [] by unfold outV; rw [hz]; rfl)
    have Ht := Lib.hid ht
    clear hz ht
    go_enter Try.func56, Try.ntmps56
    go_wp2_with fail
    refine (validateTimes_any A B n c m d X Y _ t u ts _ (hS.bel (by (repeat (first | exact Bel.refl _ | assumption | refine Bel.drew ?_ | refine Bel.drewN ?_ _ | refine Bel.alloc ?_ _ | refine Bel.setCell ?_ (by first | omega | (simp; done) | (simp; omega) | (simp at *; omega)) _ | refine Bel.trans ?_ (by assumption))))) (hT.bel (by (repeat (first | exact Bel.refl _ | assumption | refine Bel.drew ?_ | refine Bel.drewN ?_ _ | refine Bel.alloc ?_ _ | refine Bel.setCell ?_ (by first | omega | (simp; done) | (simp; omega) | (simp at *; omega)) _ | refine Bel.trans ?_ (by assumption))))) Ht.out (Nat.le_trans htu hmax)).mono ?_
    rintro e w1 ⟨rfl, hb1⟩
    rw [HZ.out]
    go_wp2
    go_ret3
    exact ⟨none, 0, 0, none, 0, 0, ret_t3 HZ.out.symm, by rw [HV1.out]; rfl, by rw [HV2.out]; rfl, by (repeat (first | exact Bel.refl _ | assumption | refine Bel.drew ?_ | refine Bel.drewN ?_ _ | refine Bel.alloc ?_ _ | refine Bel.setCell ?_ (by first | omega | (simp; done) | (simp; omega) | (simp at *; omega)) _ | refine Bel.trans ?_ (by assumption))), by rw [HV1.out]; exact .inl rfl, by rw [HV2.out]; exact .inl rfl⟩
set_option maxRecDepth 100000 in
set_option maxHeartbeats 1000000 in
theorem equal_any (A B : Option Addr) (n c m d : Nat) (l k : List Int) (w : World) (hA : Ints w A l) (hB : Ints w B k) (hn : l.length = n) (hm : k.length = m) (hmax : n ≤ maxLen) :
    Calls Try.prog 85 #[.slice A n c, .slice B m d] w fun e w' => e = .returned (.bool (decide (l = k))) ∧ Bel w w' := by
  have h63 : (n : Int) ≤ 9223372036854775807 := by unfold maxLen at hmax; omega
  by_cases hnm : n = m
  · subst hnm
    have Hn := Lib.hid hn; have Hm := Lib.hid hm
    have hne : ((n : Int) != (n : Int)) = false := by simp
    clear hn hm hmax
    go_enter Try.func85, Try.ntmps85
    go_wp2
    go_loopw [13] (fun i wr => ∃ q : Nat, q ≤ n ∧ i = .int .i64 q ∧ Bel w wr ∧ ∀ j, j < q → l[j]? = k[j]?) (fun i _ => n - (intOf i).toNat)
    case atStart => exact ⟨0, Nat.zero_le _, rfl, Bel.refl _, fun j hj => by omega⟩
    case round =>
      obtain ⟨q, hq, rfl, hb, hz⟩ := hrel
      have HZ := Lib.hid hz
      clear hz
      by_cases hlt : q < n
      · obtain ⟨b, o, s, rfl, hbl, hg, hc1⟩ := (hA.bel hb).at_ (k := q) (by rw [Hn.out]; exact hlt)
        obtain ⟨b', o', s', rfl, hbl', hg', hc1'⟩ := (hB.bel hb).at_ (k := q) (by rw [Hm.out]; exact hlt)
        have HG := Lib.hid hg; have HG' := Lib.hid hg'
        have hkn : (q : Int) < (n : Int) := by omega
        clear hg hg'
        by_cases hs : s = s'
        · subst hs
          have hsx : (s != s) = false := by simp
          go_wp2
          go_quiet (fail)
          go_wp2
          go_roundw
          case rel => exact ⟨q + 1, by omega, by go_num, by (repeat (first | exact Bel.refl _ | assumption | refine Bel.drew ?_ | refine Bel.drewN ?_ _ | refine Bel.alloc ?_ _ | refine Bel.setCell ?_ (by first | omega | (simp; done) | (simp; omega) | (simp at *; omega)) _ | refine Bel.trans ?_ (by assumption))), fun j hj => by
            rcases (by omega : j < q ∨ j = q) with h | rfl
            · exact HZ.out j h
            · rw [HG.out, HG'.out]⟩
          case measure => simp [intOf]; omega
        · have hsx : (s != s') = true := by simpa using hs
          have HF := Lib.hid (show decide (l = k) = false from decide_eq_false (fun e => by
            have h1 := HG.out
            rw [e, HG'.out] at h1
            injection h1 with h1
            exact hs h1.symm))
          clear hs
          go_wp2
          go_quiet (fail)
          go_wp2
          go_ret
          exact ⟨ret_bool HF.out.symm, by (repeat (first | exact Bel.refl _ | assumption | refine Bel.drew ?_ | refine Bel.drewN ?_ _ | refine Bel.alloc ?_ _ | refine Bel.setCell ?_ (by first | omega | (simp; done) | (simp; omega) | (simp at *; omega)) _ | refine Bel.trans ?_ (by assumption)))⟩
      · obtain rfl : q = n := by omega
        have HF := Lib.hid (show decide (l = k) = true from decide_eq_true (List.ext_getElem? fun j => by
          by_cases hj : j < q
          · exact HZ.out j hj
          · rw [List.getElem?_eq_none (by rw [Hn.out]; omega), List.getElem?_eq_none (by rw [Hm.out]; omega)]))
        go_wp2
        go_ret
        exact ⟨ret_bool HF.out.symm, by (repeat (first | exact Bel.refl _ | assumption | refine Bel.drew ?_ | refine Bel.drewN ?_ _ | refine Bel.alloc ?_ _ | refine Bel.setCell ?_ (by first | omega | (simp; done) | (simp; omega) | (simp at *; omega)) _ | refine Bel.trans ?_ (by assumption)))⟩
  · have hne : ((n : Int) != (m : Int)) = true := by simpa using (show ¬ (n : Int) = (m : Int) by omega)
    have hne2 : (n != m) = true := by simpa using hnm
    have HF := Lib.hid (show decide (l = k) = false from decide_eq_false (fun e => by rw [e] at hn; omega))
    clear hnm hn hm
    go_enter Try.func85, Try.ntmps85
    go_wp2
    go_ret
    exact ⟨ret_bool HF.out.symm, by (repeat (first | exact Bel.refl _ | assumption | refine Bel.drew ?_ | refine Bel.drewN ?_ _ | refine Bel.alloc ?_ _ | refine Bel.setCell ?_ (by first | omega | (simp; done) | (simp; omega) | (simp at *; omega)) _ | refine Bel.trans ?_ (by assumption)))⟩
set_option maxRecDepth 100000 in
set_option maxHeartbeats 1000000 in
theorem balances_any (A B : Option Addr) (n c m d : Nat) (X Y : List (List Int)) (T : Option Addr) (t u : Nat) (ts : List Int) (w : World) (hS : Strk w A n B m X Y) (hT : Ints w T ts) (ht : ts.length = t) (htu : t ≤ u) (hmax : u ≤ maxLen) :
    Calls Try.prog 43 #[.agg #[.slice A n c, .slice B m d], .slice T t u] w fun e w' => e = .returned (.tuple #[.bool (balV X Y ts), .int .i64 (errT X Y ts)]) ∧ Bel w w' := by
  have Ht := Lib.hid ht
  clear ht
  rcases errT_cases X Y ts with ⟨he, hb, hz⟩ | hz
  · have HZ := Lib.hid hz
    have HV := Lib.hid (balV_ok hz)
    have e1 : inV X Y ts = inL X ts := by unfold inV; rw [if_pos hz]
    have e2 : outV X Y ts = outL X Y ts := by unfold outV; rw [if_pos hz]
    have HQ := Lib.hid (show decide (inV X Y ts = outV X Y ts) = balV X Y ts by rw [e1, e2, bal_eq, balV_ok hz])
    have HL := Lib.hid (show (inV X Y ts).length ≤ maxLen by rw [e1]; unfold inL sumL; rw [List.length_map, List.length_range]; have := (str_of he).e4; unfold maxLen; omega)
    clear he hb hz e1 e2
    go_enter Try.func43, Try.ntmps43
    go_wp2_with fail
    refine (elements_any A B n c m d X Y T t u ts _ (hS.bel (by (repeat (first | exact Bel.refl _ | assumption | refine Bel.drew ?_ | refine Bel.drewN ?_ _ | refine Bel.alloc ?_ _ | refine Bel.setCell ?_ (by first | omega | (simp; done) | (simp; omega) | (simp at *; omega)) _ | refine Bel.trans ?_ (by assumption))))) (hT.bel (by (repeat (first | exact Bel.refl _ | assumption | refine Bel.drew ?_ | refine Bel.drewN ?_ _ | refine Bel.alloc ?_ _ | refine Bel.setCell ?_ (by first | omega | (simp; done) | (simp; omega) | (simp at *; omega)) _ | refine Bel.trans ?_ (by assumption))))) Ht.out htu hmax).mono ?_
    rintro e w1 ⟨A1, n1, c1, A2, n2, c2, rfl, h1, h2, hb1, hI1, hI2⟩
    rw [HZ.out]
    have H1 := Lib.hid h1; have H2 := Lib.hid h2
    clear h1 h2
    go_wp2_with fail
    refine (equal_any A1 A2 n1 c1 n2 c2 _ _ _ hI1 hI2 H1.out.symm H2.out.symm (by rw [H1.out]; exact HL.out)).mono ?_
    rintro e w2 ⟨rfl, hb2⟩
    rw [HQ.out]
    go_wp2
    go_ret2
    exact ⟨ret_be rfl HZ.out.symm, by (repeat (first | exact Bel.refl _ | assumption | refine Bel.drew ?_ | refine Bel.drewN ?_ _ | refine Bel.alloc ?_ _ | refine Bel.setCell ?_ (by first | omega | (simp; done) | (simp; omega) | (simp at *; omega)) _ | refine Bel.trans ?_ (by assumption)))⟩
  · have HZ := Lib.hid hz
    have HV := Lib.hid (balV_no hz)
    clear hz
    go_enter Try.func43, Try.ntmps43
    go_wp2_with fail
    refine (elements_any A B n c m d X Y T t u ts _ (hS.bel (by (repeat (first | exact Bel.refl _ | assumption | refine Bel.drew ?_ | refine Bel.drewN ?_ _ | refine Bel.alloc ?_ _ | refine Bel.setCell ?_ (by first | omega | (simp; done) | (simp; omega) | (simp at *; omega)) _ | refine Bel.trans ?_ (by assumption))))) (hT.bel (by (repeat (first | exact Bel.refl _ | assumption | refine Bel.drew ?_ | refine Bel.drewN ?_ _ | refine Bel.alloc ?_ _ | refine Bel.setCell ?_ (by first | omega | (simp; done) | (simp; omega) | (simp at *; omega)) _ | refine Bel.trans ?_ (by assumption))))) Ht.out htu hmax).mono ?_
    rintro e w1 ⟨A1, n1, c1, A2, n2, c2, rfl, h1, h2, hb1, hI1, hI2⟩
    rw [HZ.out]
    clear h1 h2
    go_wp2
    go_ret2
    exact ⟨ret_be HV.out.symm HZ.out.symm, by (repeat (first | exact Bel.refl _ | assumption | refine Bel.drew ?_ | refine Bel.drewN ?_ _ | refine Bel.alloc ?_ _ | refine Bel.setCell ?_ (by first | omega | (simp; done) | (simp; omega) | (simp at *; omega)) _ | refine Bel.trans ?_ (by assumption)))⟩
end Go.Proofs.Ytfjegdejfccgaaa
