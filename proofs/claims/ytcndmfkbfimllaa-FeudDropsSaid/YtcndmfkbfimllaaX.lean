/- Sets of paints by the document (is), and by the program. -/
import Derived.Test.YtcndmfkbfimllaaW
namespace Go.Proofs.Ytcndmfkbfimllaa
open Go.RowKit Go.Maps

theorem ret_bpair {a b : Bool} {x y : Int} (h : a = b) (h2 : x = y) : Ending.returned (.tuple #[.bool a, .int .i64 x]) = .returned (.tuple #[.bool b, .int .i64 y]) := by rw [h, h2]
/-- What IsCalm and IsBitter answer. -/
def isV (p : Int) (F : List (Int × Int)) (l : List Int) (b : Bool) : Bool := if errT p F l = 0 then alikeB (down F) b (l.map Int.toNat) else false
theorem isV_no {p : Int} {F : List (Int × Int)} {l : List Int} {b : Bool} (h : errT p F l ≠ 0) : isV p F l b = false := by unfold isV; rw [if_neg h]
theorem down_up (G : List (Nat × Nat)) : down (up G) = G := by
  unfold down up
  rw [List.map_map]
  conv => rhs; rw [← List.map_id G]
  refine List.map_congr_left fun g _ => ?_
  rfl
theorem toNat_up (l : List Nat) : (upN l).map Int.toNat = l := by
  unfold upN
  rw [List.map_map]
  conv => rhs; rw [← List.map_id l]
  refine List.map_congr_left fun g _ => ?_
  simp
theorem isV_ok {p : Nat} {G : List (Nat × Nat)} {l : List Nat} {b : Bool} (hS : Shop p G) (hl : setB (upN l) (p : Int) = true) : isV (p : Int) (up G) (upN l) b = alikeB G b l := by
  unfold isV
  rw [if_pos (errT_ok hS.err hl), down_up, toNat_up]
set_option maxRecDepth 100000 in
set_option maxHeartbeats 1000000 in
theorem ris_any (p : Int) (A : Option Addr) (n c : Nat) (F : List (Int × Int)) (B : Option Addr) (m d : Nat) (l : List Int) (b : Bool) (w : World) (hR : Prs w A F) (hn : F.length = n) (h60 : n ≤ 900) (hI : Ints w B l) (hm : l.length = m) (h100 : m ≤ 100) (hmd : m ≤ d) :
    Calls Try.prog 82 #[.agg #[.int .i64 p, .slice A n c], .slice B m d, .bool b] w fun e w' => e = .returned (.tuple #[.bool (isV p F l b), .int .i64 (errT p F l)]) ∧ Bel w w' := by
  have Hn := Lib.hid hn
  have Hm := Lib.hid hm
  have Hmd := Lib.hid hmd
  clear hn hm hmd
  have Held := Lib.hid (fun w' (h : Bel (w.alloc (.cells #[.int .i64 p, .slice A n c] 24)) w') => pair_box h)
  by_cases he : errF p F = 0
  · have HE := Lib.hid he
    obtain ⟨⟨p1, p7⟩, -, -⟩ := errF_zero he
    cases hs : setB l p
    · have HT := Lib.hid (errT_no he hs)
      have HV := Lib.hid (isV_no (b := b) (show errT p F l ≠ 0 by rw [errT_no he hs]; decide))
      have HS := Lib.hid hs
      rw [HT.out, HV.out]
      clear he hs
      go_enter Try.func82, Try.ntmps82
      go_wp2_with fail
      refine (rValidate_any p A n c F _ (hR.bel (by (repeat (first | exact Bel.refl _ | assumption | refine Bel.drew ?_ | refine Bel.drewN ?_ _ | refine Bel.alloc ?_ _ | refine Bel.setCell ?_ (by first | omega | (simp; done) | (simp; omega) | (simp at *; omega)) _ | refine Bel.trans ?_ (by assumption))))) Hn.out h60).mono ?_
      rintro e w1 ⟨rfl, hb1⟩
      rw [HE.out]
      obtain ⟨b0, b1⟩ := Held.out _ hb1
      go_wp2_with fail
      refine (rIsSet_any B m d l p _ (hI.bel (((Bel.refl w).alloc _).trans hb1)) Hm.out (by unfold maxLen; omega) (by omega) (by omega)).mono ?_
      rintro e w2 ⟨rfl, hb2⟩
      rw [HS.out]
      go_wp2
      go_ret2
      exact ⟨rfl, by (repeat (first | exact Bel.refl _ | assumption | refine Bel.drew ?_ | refine Bel.drewN ?_ _ | refine Bel.alloc ?_ _ | refine Bel.setCell ?_ (by first | omega | (simp; done) | (simp; omega) | (simp at *; omega)) _ | refine Bel.trans ?_ (by assumption)))⟩
    · obtain ⟨q, G, rfl, rfl, hSh⟩ := shop_of he
      obtain ⟨k, rfl, hk⟩ := set_nat hs
      have HT := Lib.hid (errT_ok he hs)
      have HV := Lib.hid (isV_ok (b := b) hSh hs)
      have HS := Lib.hid hs
      have HG := Lib.hid (show G.length = n by rw [← Hn.out, up_length])
      have HK := Lib.hid (show k.length = m by rw [← Hm.out, upN_length])
      have HSm := Lib.hid hSh.small
      have HKs := Lib.hid (fun x (hx : x ∈ k) => hk x hx)
      have q7 := hSh.p7
      rw [HT.out, HV.out]
      clear he hs hSh hk
      go_enter Try.func82, Try.ntmps82
      go_wp2_with fail
      refine (rValidate_any q A n c (up G) _ (hR.bel (by (repeat (first | exact Bel.refl _ | assumption | refine Bel.drew ?_ | refine Bel.drewN ?_ _ | refine Bel.alloc ?_ _ | refine Bel.setCell ?_ (by first | omega | (simp; done) | (simp; omega) | (simp at *; omega)) _ | refine Bel.trans ?_ (by assumption))))) Hn.out h60).mono ?_
      rintro e w1 ⟨rfl, hb1⟩
      rw [HE.out]
      obtain ⟨b0, b1⟩ := Held.out _ hb1
      go_wp2_with fail
      refine (rIsSet_any B m d (upN k) q _ (hI.bel (((Bel.refl w).alloc _).trans hb1)) Hm.out (by unfold maxLen; omega) (by omega) (by omega)).mono ?_
      rintro e w2 ⟨rfl, hb2⟩
      rw [HS.out]
      clear b0 b1
      obtain ⟨b0, b1⟩ := Held.out _ (hb1.trans hb2)
      go_wp2_with fail
      refine (rAlike_any q A n c G B m d k b _ (hR.bel (((Bel.refl w).alloc _).trans (hb1.trans hb2))) HG.out h60 (hI.bel (((Bel.refl w).alloc _).trans (hb1.trans hb2))) HK.out h100).mono ?_
      rintro e w4 ⟨rfl, hb4⟩
      go_wp2
      go_ret2
      exact ⟨rfl, by (repeat (first | exact Bel.refl _ | assumption | refine Bel.drew ?_ | refine Bel.drewN ?_ _ | refine Bel.alloc ?_ _ | refine Bel.setCell ?_ (by first | omega | (simp; done) | (simp; omega) | (simp at *; omega)) _ | refine Bel.trans ?_ (by assumption)))⟩
  · have HT := Lib.hid (errT_bad (l := l) he)
    have HV := Lib.hid (isV_no (b := b) (show errT p F l ≠ 0 by rw [errT_bad he]; exact he))
    rw [HT.out, HV.out]
    obtain ⟨x, hx⟩ : ∃ x, x = errF p F := ⟨_, rfl⟩
    have hne : (x != 0) = true := by rw [hx]; simpa using he
    have HX := Lib.hid hx
    rw [← hx]
    clear he hx
    go_enter Try.func82, Try.ntmps82
    go_wp2_with fail
    refine (rValidate_any p A n c F _ (hR.bel (by (repeat (first | exact Bel.refl _ | assumption | refine Bel.drew ?_ | refine Bel.drewN ?_ _ | refine Bel.alloc ?_ _ | refine Bel.setCell ?_ (by first | omega | (simp; done) | (simp; omega) | (simp at *; omega)) _ | refine Bel.trans ?_ (by assumption))))) Hn.out h60).mono ?_
    rintro e w1 ⟨rfl, hb1⟩
    rw [← HX.out]
    go_wp2
    go_ret2
    exact ⟨rfl, by (repeat (first | exact Bel.refl _ | assumption | refine Bel.drew ?_ | refine Bel.drewN ?_ _ | refine Bel.alloc ?_ _ | refine Bel.setCell ?_ (by first | omega | (simp; done) | (simp; omega) | (simp at *; omega)) _ | refine Bel.trans ?_ (by assumption)))⟩
/-- Is a number that of a paint? -/
def paintB (a p : Int) : Bool := decide (0 ≤ a) && decide (a < p)
theorem paintB_iff {a p : Int} : paintB a p = true ↔ 0 ≤ a ∧ a < p := by simp [paintB]
theorem paintB_no {a p : Int} (h : ¬ (0 ≤ a ∧ a < p)) : paintB a p = false := by rw [Bool.eq_false_iff]; exact fun e => h (paintB_iff.1 e)
theorem isPaint_any (p : Int) (A : Option Addr) (n c : Nat) (a : Int) (w : World) : Calls Try.prog 83 #[.agg #[.int .i64 p, .slice A n c], .int .i64 a] w fun e w' => e = .returned (.bool (paintB a p)) ∧ Bel w w' := by
  by_cases h1 : 0 ≤ a
  · by_cases h2 : a < p
    · have HF := Lib.hid (paintB_iff.2 ⟨h1, h2⟩)
      go_enter Try.func83, Try.ntmps83
      go_wp2
      go_ret
      exact ⟨ret_bool HF.out.symm, by (repeat (first | exact Bel.refl _ | assumption | refine Bel.drew ?_ | refine Bel.drewN ?_ _ | refine Bel.alloc ?_ _ | refine Bel.setCell ?_ (by first | omega | (simp; done) | (simp; omega) | (simp at *; omega)) _ | refine Bel.trans ?_ (by assumption)))⟩
    · have HF := Lib.hid (paintB_no (a := a) (p := p) (by omega))
      have h3 : p ≤ a := by omega
      clear h2
      go_enter Try.func83, Try.ntmps83
      go_wp2
      go_ret
      exact ⟨ret_bool (by rw [HF.out]; simpa using h3), by (repeat (first | exact Bel.refl _ | assumption | refine Bel.drew ?_ | refine Bel.drewN ?_ _ | refine Bel.alloc ?_ _ | refine Bel.setCell ?_ (by first | omega | (simp; done) | (simp; omega) | (simp at *; omega)) _ | refine Bel.trans ?_ (by assumption)))⟩
  · have HF := Lib.hid (paintB_no (a := a) (p := p) (by omega))
    have h3 : a < 0 := by omega
    clear h1
    go_enter Try.func83, Try.ntmps83
    go_wp2
    go_ret
    exact ⟨ret_bool HF.out.symm, by (repeat (first | exact Bel.refl _ | assumption | refine Bel.drew ?_ | refine Bel.drewN ?_ _ | refine Bel.alloc ?_ _ | refine Bel.setCell ?_ (by first | omega | (simp; done) | (simp; omega) | (simp at *; omega)) _ | refine Bel.trans ?_ (by assumption)))⟩
set_option maxRecDepth 100000 in
set_option maxHeartbeats 1000000 in
theorem foes_any (p : Nat) (M : Nat) (G : List (Nat × Nat)) (a : Nat) (w : World) (hF : FM w M G) (p7 : p ≤ 7) (ha : a ≤ 1000) :
    Calls Try.prog 85 #[.agg #[.int .i64 (p : Int), .map (some M)], .int .i64 (a : Int)] w (News w (upN (foesTo G a p))) := by
  obtain ⟨i0, hi, hz0, hz1, hz2⟩ := info_parts info1I
  have Held := Lib.hid (fun w' (h : Bel (w.alloc (.cells #[.int .i64 (p : Int), .map (some M)] 70)) w') => box_shop h)
  go_enter Try.func85, Try.ntmps85
  go_wp2
  go_loopw [5, 9] (fun v i wr => ∃ k : Nat, k ≤ p ∧ i = .int .i64 k ∧ Bel (w.alloc (.cells #[.int .i64 (p : Int), .map (some M)] 70)) wr ∧ Own1 3 (w.heap.size + 1) wr v (upN (foesTo G a k))) (fun _ i _ => p - (intOf i).toNat)
  case atStart => exact ⟨0, Nat.zero_le _, rfl, Bel.refl _, Own1.nil _ _ _⟩
  case round =>
    obtain ⟨k, hk, rfl, hb, hO⟩ := hrel
    have hbw : Bel w wr := ((Bel.refl w).alloc _).trans hb
    obtain ⟨b0, b1⟩ := Held.out _ hb
    by_cases hlt : k < p
    · have hkp : (k : Int) < (p : Int) := by omega
      have HS := Lib.hid (foesTo_succ G a k)
      have hl := foesTo_len G a k
      obtain ⟨l, hll⟩ : ∃ l, l = upN (foesTo G a k) := ⟨_, rfl⟩
      rw [← hll] at hO
      have hll2 : l.length ≤ 7 := by rw [hll, upN_length]; omega
      have HL := Lib.hid hll
      have hX1 := Lib.hid (show l.length + 1 ≤ maxLen by unfold maxLen; omega)
      have hX2 := Lib.hid (show (l.length + 1) * 8 ≤ 140737488355328 by omega)
      clear hll hl
      go_wp2_with fail
      refine (shas_any p M G a k _ (hF.bel hbw) ha (by omega)).mono ?_
      rintro e w2 ⟨rfl, hb2⟩
      have hO2 := Lib.hid (hO.bel hb2)
      have hsz2 : w.heap.size + 1 ≤ w2.heap.size := by have := (hb.trans hb2).size; simp at this; omega
      cases hh : hasG G a k
      · have HQ := Lib.hid (show upN (foesTo G a (k + 1)) = l by rw [HS.out, hh, HL.out]; simp)
        clear hh
        go_wp2
        go_roundw
        case rel => exact ⟨k + 1, by omega, by go_num, hb.trans hb2, by rw [HQ.out]; exact hO2.out⟩
        case measure => simp [intOf]; omega
      · have HQ := Lib.hid (show upN (foesTo G a (k + 1)) = l ++ [(k : Int)] by rw [HS.out, hh, HL.out, if_pos rfl, upN_app]; rfl)
        clear hh
        go_wp2_with (at_builtin; go_loud (refine wpList_append_lies _ rfl (.tmp 16) (.tmp 18) 25 rfl (w.heap.size + 1) 3 i0 _ 1 8 Try.underlying25 hi hz0 hz1 hz2 rfl (by decide) u5 l.length (l.map fun x => .int .i64 x) (by rfl) (hO2.out.alloc _) ⟨w2.heap.size, 0, none⟩ 1 1 [.int .i64 (k : Int)] (by rfl) rfl (new1 w2 _ _ _ rfl) (one1 _) (by omega) hX1.out hX2.out (Nat.le_trans hsz2 (by simp)) _ rfl ?_); intro g3 cap3 w3 hown3 hgr3 _ hlt3)
        have hB3 : Bel (w.alloc (.cells #[.int .i64 (p : Int), .map (some M)] 70)) w3 := grown_own ((hb.trans hb2).alloc _) hO2.out (by simp) hgr3
        have hO3 := Lib.hid (Own1.snoc hown3)
        clear hown3 hgr3 hlt3 hO hO2
        go_roundw
        case rel => exact ⟨k + 1, by omega, by go_num, hB3, by rw [HQ.out]; exact hO3.out⟩
        case measure => simp [intOf]; omega
    · obtain rfl : k = p := by omega
      obtain ⟨A', n', c', rfl, hn', hI⟩ := hO.form
      have HN := Lib.hid hn'
      clear hn' hO
      go_wp2
      go_ret
      exact ⟨A', n', c', rfl, HN.out, hbw, hI⟩
end Go.Proofs.Ytcndmfkbfimllaa
