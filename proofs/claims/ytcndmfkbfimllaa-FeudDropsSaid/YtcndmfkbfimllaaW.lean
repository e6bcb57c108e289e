/- Sets of paints by the document: painted, Feuds, is, IsCalm, IsBitter. -/
import Derived.Test.YtcndmfkbfimllaaV
import Derived.Test.YtcndmfkbfimllaaQ
namespace Go.Proofs.Ytcndmfkbfimllaa
open Go.RowKit Go.Maps

/-- The paints with which a paint has a feud, among the first ones. -/
def foesTo (G : List (Nat × Nat)) (a m : Nat) : List Nat := (List.range m).filter fun b => hasG G a b
theorem foesTo_succ (G : List (Nat × Nat)) (a m : Nat) : foesTo G a (m + 1) = foesTo G a m ++ if hasG G a m then [m] else [] := by
  unfold foesTo
  rw [List.range_succ, List.filter_append]
  cases h : hasG G a m <;> simp [h]
theorem foesTo_len (G : List (Nat × Nat)) (a m : Nat) : (foesTo G a m).length ≤ m := by
  unfold foesTo
  have := List.length_filter_le (fun b => hasG G a b) (List.range m)
  simpa using this
/-- The error of a shop and a paint. -/
def errP (p : Int) (F : List (Int × Int)) (a : Int) : Int := if errF p F = 0 then if 0 ≤ a ∧ a < p then 0 else 4 else errF p F
theorem errP_bad {p : Int} {F : List (Int × Int)} {a : Int} (h : errF p F ≠ 0) : errP p F a = errF p F := by unfold errP; rw [if_neg h]
theorem errP_no {p : Int} {F : List (Int × Int)} {a : Int} (h : errF p F = 0) (hs : ¬ (0 ≤ a ∧ a < p)) : errP p F a = 4 := by unfold errP; rw [if_pos h, if_neg hs]
theorem errP_ok {p : Int} {F : List (Int × Int)} {a : Int} (h : errF p F = 0) (hs : 0 ≤ a ∧ a < p) : errP p F a = 0 := by unfold errP; rw [if_pos h, if_pos hs]
/-- The error of a shop and a set. -/
def errT (p : Int) (F : List (Int × Int)) (l : List Int) : Int := if errF p F = 0 then if setB l p = true then 0 else 1 else errF p F
theorem errT_bad {p : Int} {F : List (Int × Int)} {l : List Int} (h : errF p F ≠ 0) : errT p F l = errF p F := by unfold errT; rw [if_neg h]
theorem errT_no {p : Int} {F : List (Int × Int)} {l : List Int} (h : errF p F = 0) (hs : setB l p = false) : errT p F l = 1 := by unfold errT; rw [if_pos h, if_neg (by rw [hs]; simp)]
theorem errT_ok {p : Int} {F : List (Int × Int)} {l : List Int} (h : errF p F = 0) (hs : setB l p = true) : errT p F l = 0 := by unfold errT; rw [if_pos h, if_pos hs]

set_option maxRecDepth 100000 in
theorem painted_any (p : Int) (A : Option Addr) (n c : Nat) (F : List (Int × Int)) (a : Int) (w : World) (hR : Prs w A F) (hn : F.length = n) (h60 : n ≤ 900) :
    Calls Try.prog 80 #[.agg #[.int .i64 p, .slice A n c], .int .i64 a] w fun e w' => e = .returned (.int .i64 (errP p F a)) ∧ Bel w w' := by
  have Hn := Lib.hid hn
  clear hn
  have Held := Lib.hid (fun w' (h : Bel (w.alloc (.cells #[.int .i64 p, .slice A n c] 24)) w') => pair_box h)
  by_cases he : errF p F = 0
  · have HE := Lib.hid he
    obtain ⟨⟨p1, p7⟩, -, -⟩ := errF_zero he
    by_cases hs : 0 ≤ a ∧ a ≤ p - 1
    · have HS := Lib.hid (errP_ok he (show 0 ≤ a ∧ a < p by omega))
      have HA := Lib.hid hs
      clear he hs
      go_enter Try.func80, Try.ntmps80
      go_wp2_with fail
      refine (rValidate_any p A n c F _ (hR.bel (by (repeat (first | exact Bel.refl _ | assumption | refine Bel.drew ?_ | refine Bel.drewN ?_ _ | refine Bel.alloc ?_ _ | refine Bel.setCell ?_ (by first | omega | (simp; done) | (simp; omega) | (simp at *; omega)) _ | refine Bel.trans ?_ (by assumption))))) Hn.out h60).mono ?_
      rintro e w1 ⟨rfl, hb1⟩
      rw [HE.out]
      obtain ⟨b0, b1⟩ := Held.out _ hb1
      go_wp2_with fail
      refine (within_yes a 0 (p - 1) _ HA.out).mono ?_
      rintro e w2 ⟨rfl, rfl⟩
      go_wp2
      go_ret
      exact ⟨ret_int HS.out.symm, by (repeat (first | exact Bel.refl _ | assumption | refine Bel.drew ?_ | refine Bel.drewN ?_ _ | refine Bel.alloc ?_ _ | refine Bel.setCell ?_ (by first | omega | (simp; done) | (simp; omega) | (simp at *; omega)) _ | refine Bel.trans ?_ (by assumption)))⟩
    · have HS := Lib.hid (errP_no he (show ¬ (0 ≤ a ∧ a < p) by omega))
      have HA := Lib.hid hs
      clear he hs
      go_enter Try.func80, Try.ntmps80
      go_wp2_with fail
      refine (rValidate_any p A n c F _ (hR.bel (by (repeat (first | exact Bel.refl _ | assumption | refine Bel.drew ?_ | refine Bel.drewN ?_ _ | refine Bel.alloc ?_ _ | refine Bel.setCell ?_ (by first | omega | (simp; done) | (simp; omega) | (simp at *; omega)) _ | refine Bel.trans ?_ (by assumption))))) Hn.out h60).mono ?_
      rintro e w1 ⟨rfl, hb1⟩
      rw [HE.out]
      obtain ⟨b0, b1⟩ := Held.out _ hb1
      go_wp2_with fail
      refine (within_no a 0 (p - 1) _ HA.out).mono ?_
      rintro e w2 ⟨rfl, rfl⟩
      go_wp2
      go_ret
      exact ⟨ret_int HS.out.symm, by (repeat (first | exact Bel.refl _ | assumption | refine Bel.drew ?_ | refine Bel.drewN ?_ _ | refine Bel.alloc ?_ _ | refine Bel.setCell ?_ (by first | omega | (simp; done) | (simp; omega) | (simp at *; omega)) _ | refine Bel.trans ?_ (by assumption)))⟩
  · have HS := Lib.hid (errP_bad (a := a) he)
    obtain ⟨x, hx⟩ : ∃ x, x = errF p F := ⟨_, rfl⟩
    have hne : (x != 0) = true := by rw [hx]; simpa using he
    have HX := Lib.hid hx
    clear he hx
    go_enter Try.func80, Try.ntmps80
    go_wp2_with fail
    refine (rValidate_any p A n c F _ (hR.bel (by (repeat (first | exact Bel.refl _ | assumption | refine Bel.drew ?_ | refine Bel.drewN ?_ _ | refine Bel.alloc ?_ _ | refine Bel.setCell ?_ (by first | omega | (simp; done) | (simp; omega) | (simp at *; omega)) _ | refine Bel.trans ?_ (by assumption))))) Hn.out h60).mono ?_
    rintro e w1 ⟨rfl, hb1⟩
    rw [← HX.out]
    go_wp2
    go_ret
    exact ⟨ret_int (HX.out.trans HS.out.symm), by (repeat (first | exact Bel.refl _ | assumption | refine Bel.drew ?_ | refine Bel.drewN ?_ _ | refine Bel.alloc ?_ _ | refine Bel.setCell ?_ (by first | omega | (simp; done) | (simp; omega) | (simp at *; omega)) _ | refine Bel.trans ?_ (by assumption)))⟩
set_option maxRecDepth 100000 in
theorem rFeuds_err (p : Int) (A : Option Addr) (n c : Nat) (F : List (Int × Int)) (a : Int) (w : World) (hR : Prs w A F) (hn : F.length = n) (h60 : n ≤ 900) (he : errP p F a ≠ 0) :
    Calls Try.prog 38 #[.agg #[.int .i64 p, .slice A n c], .int .i64 a] w fun e w' => e = .returned (.tuple #[.slice none 0 0, .int .i64 (errP p F a)]) ∧ Bel w w' := by
  obtain ⟨x, hx⟩ : ∃ x, x = errP p F a := ⟨_, rfl⟩
  have hne : (x != 0) = true := by rw [hx]; simpa using he
  rw [← hx]
  have HX := Lib.hid hx
  have Hn := Lib.hid hn
  clear he hx hn
  go_enter Try.func38, Try.ntmps38
  go_wp2_with fail
  refine (painted_any p A n c F a _ (hR.bel (by (repeat (first | exact Bel.refl _ | assumption | refine Bel.drew ?_ | refine Bel.drewN ?_ _ | refine Bel.alloc ?_ _ | refine Bel.setCell ?_ (by first | omega | (simp; done) | (simp; omega) | (simp at *; omega)) _ | refine Bel.trans ?_ (by assumption))))) Hn.out h60).mono ?_
  rintro e w1 ⟨rfl, hb1⟩
  rw [← HX.out]
  go_wp2
  go_ret2
  exact ⟨rfl, by (repeat (first | exact Bel.refl _ | assumption | refine Bel.drew ?_ | refine Bel.drewN ?_ _ | refine Bel.alloc ?_ _ | refine Bel.setCell ?_ (by first | omega | (simp; done) | (simp; omega) | (simp at *; omega)) _ | refine Bel.trans ?_ (by assumption)))⟩
set_option maxRecDepth 100000 in
set_option maxHeartbeats 2000000 in
theorem rFeuds_ok (p : Nat) (A : Option Addr) (n c : Nat) (G : List (Nat × Nat)) (a : Nat) (w : World) (hR : Prs w A (up G)) (hn : G.length = n) (h60 : n ≤ 900) (hS : Shop p G) (ha : a < p) :
    Calls Try.prog 38 #[.agg #[.int .i64 (p : Int), .slice A n c], .int .i64 (a : Int)] w (NewsOk w (upN (foesTo G a p))) := by
  obtain ⟨i0, hi, hz0, hz1, hz2⟩ := info_parts info1I
  have HE := Lib.hid (errP_ok hS.err (show (0 : Int) ≤ (a : Int) ∧ (a : Int) < (p : Int) by omega))
  have Hn := Lib.hid hn
  have Hu := Lib.hid (show (up G).length = n by rw [up_length]; exact hn)
  have p7 := hS.p7
  have Held := Lib.hid (fun w' (h : Bel (w.alloc (.cells #[.int .i64 (p : Int), .slice A n c] 24)) w') => pair_box h)
  clear hn hS
  go_enter Try.func38, Try.ntmps38
  go_wp2_with fail
  refine (painted_any p A n c (up G) a _ (hR.bel (by (repeat (first | exact Bel.refl _ | assumption | refine Bel.drew ?_ | refine Bel.drewN ?_ _ | refine Bel.alloc ?_ _ | refine Bel.setCell ?_ (by first | omega | (simp; done) | (simp; omega) | (simp at *; omega)) _ | refine Bel.trans ?_ (by assumption))))) Hu.out h60).mono ?_
  rintro e w1 ⟨rfl, hb1⟩
  rw [HE.out]
  go_wp2
  go_loopw [7, 8] (fun v i wr => ∃ k : Nat, k ≤ p ∧ i = .int .i64 k ∧ Bel (w.alloc (.cells #[.int .i64 (p : Int), .slice A n c] 24)) wr ∧ Own1 3 w1.heap.size wr v (upN (foesTo G a k)) ∧ w1.heap.size ≤ wr.heap.size) (fun _ i _ => p - (intOf i).toNat)
  case atStart => exact ⟨0, Nat.zero_le _, rfl, hb1, Own1.nil _ _ _, Nat.le_refl _⟩
  case round =>
    obtain ⟨k, hk, rfl, hb, hO, hsz⟩ := hrel
    have hbw : Bel w wr := ((Bel.refl w).alloc _).trans hb
    obtain ⟨b0, b1⟩ := Held.out _ hb
    by_cases hlt : k < p
    · have hkp : (k : Int) < (p : Int) := by omega
      have HS := Lib.hid (foesTo_succ G a k)
      have hl := foesTo_len G a k
      obtain ⟨l, hll⟩ : ∃ l, l = upN (foesTo G a k) := ⟨_, rfl⟩
      rw [← hll] at hO
      have hll2 : l.length ≤ 7 := by rw [hll, upN_length]; omega
      have HL := Lib.hid hll
      have hX1 := Lib.hid (show l.length + 1 ≤ maxLen by unfold maxLen; omega)
      have hX2 := Lib.hid (show (l.length + 1) * 8 ≤ 140737488355328 by omega)
      clear hll hl
      go_wp2_with fail
      refine (rFeud_any p A n c G a k _ (hR.bel hbw) Hn.out h60).mono ?_
      rintro e w2 ⟨rfl, hb2⟩
      have hO2 := Lib.hid (hO.bel hb2)
      have hsz2 : w1.heap.size ≤ w2.heap.size := Nat.le_trans hsz hb2.size
      cases hh : hasG G a k
      · have HQ := Lib.hid (show upN (foesTo G a (k + 1)) = l by rw [HS.out, hh, HL.out]; simp)
        clear hh
        go_wp2
        go_roundw
        case rel => exact ⟨k + 1, by omega, by go_num, hb.trans hb2, by rw [HQ.out]; exact hO2.out, hsz2⟩
        case measure => simp [intOf]; omega
      · have HQ := Lib.hid (show upN (foesTo G a (k + 1)) = l ++ [(k : Int)] by rw [HS.out, hh, HL.out, if_pos rfl, upN_app]; rfl)
        clear hh
        go_wp2_with (at_builtin; go_loud (refine wpList_append_lies _ rfl (.tmp 25) (.tmp 27) 25 rfl w1.heap.size 3 i0 _ 1 8 Try.underlying25 hi hz0 hz1 hz2 rfl (by decide) u7 l.length (l.map fun x => .int .i64 x) (by rfl) (hO2.out.alloc _) ⟨w2.heap.size, 0, none⟩ 1 1 [.int .i64 (k : Int)] (by rfl) rfl (new1 w2 _ _ _ rfl) (one1 _) (by omega) hX1.out hX2.out (Nat.le_trans hsz2 (by simp)) _ rfl ?_); intro g3 cap3 w3 hown3 hgr3 _ hlt3)
        have hB3 := grown_own (w := w.alloc (.cells #[.int .i64 (p : Int), .slice A n c] 24)) ((hb.trans hb2).alloc _) hO2.out hb1.size hgr3
        have hs3 : w1.heap.size ≤ w3.heap.size := by have := hgr3.size; simp at this; omega
        have hO3 := Lib.hid (Own1.snoc hown3)
        clear hown3 hgr3 hlt3 hO hO2
        go_roundw
        case rel => exact ⟨k + 1, by omega, by go_num, hB3, by rw [HQ.out]; exact hO3.out, hs3⟩
        case measure => simp [intOf]; omega
    · obtain rfl : k = p := by omega
      obtain ⟨A', n', c', rfl, hn', hI⟩ := hO.form
      have HN := Lib.hid hn'
      clear hn' hO
      go_wp2
      go_ret2
      exact ⟨A', n', c', rfl, HN.out, hbw, hI⟩
end Go.Proofs.Ytcndmfkbfimllaa
