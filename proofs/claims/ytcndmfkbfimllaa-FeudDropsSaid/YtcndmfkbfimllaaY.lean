/- Sets of paints by the program: isSet, isAlike, IsCalm, IsBitter, Feuds. -/
import Derived.Test.YtcndmfkbfimllaaX
namespace Go.Proofs.Ytcndmfkbfimllaa
open Go.RowKit Go.Maps

set_option maxRecDepth 100000 in
set_option maxHeartbeats 1000000 in
theorem fIsSet_any (p : Int) (A : Option Addr) (n c : Nat) (B : Option Addr) (m d : Nat) (ns : List Int) (w : World) (hI : Ints w B ns) (hm : ns.length = m) (h100 : m ≤ 100) :
    Calls Try.prog 113 #[.agg #[.int .i64 p, .slice A n c], .slice B m d] w fun e w' => e = .returned (.bool (setB ns p)) ∧ Bel w w' := by
  have Hm := Lib.hid hm
  have hmi : (m : Int) ≤ 100 := by omega
  clear hm
  have Held := Lib.hid (fun w' (h : Bel (w.alloc (.cells #[.int .i64 p, .slice A n c] 24)) w') => pair_box h)
  go_enter Try.func113, Try.ntmps113
  go_wp2
  go_loopw [5, 10] (fun l i wr => ∃ (k : Nat) (last : Int), k ≤ m ∧ i = .int .i64 k ∧ l = .int .i64 last ∧ Bel (w.alloc (.cells #[.int .i64 p, .slice A n c] 24)) wr ∧ scanI last p (ns.drop k) = setB ns p ∧ -1 ≤ last) (fun _ i _ => m - (intOf i).toNat)
  case atStart => exact ⟨0, -1, Nat.zero_le _, rfl, rfl, Bel.refl _, rfl, by omega⟩
  case round =>
    obtain ⟨k, last, hk, rfl, rfl, hb, hs, hl1⟩ := hrel
    have HS := Lib.hid hs
    obtain ⟨b0, b1⟩ := Held.out _ hb
    have hbw : Bel w wr := ((Bel.refl w).alloc _).trans hb
    clear hs
    by_cases hlt : k < m
    · have hki : (k : Int) < (m : Int) := by omega
      obtain ⟨b, o, x, rfl, hbl, hg, hc1⟩ := (hI.bel hbw).at_ (k := k) (by rw [Hm.out]; exact hlt)
      have HG := Lib.hid (scanI_step (last := last) (below := p) hg)
      clear hg
      by_cases h1 : last < x
      · by_cases h2 : x < p
        · have HS2 := Lib.hid (show scanI x p (ns.drop (k + 1)) = setB ns p by rw [← HS.out, HG.out, decide_eq_true h1, decide_eq_true h2]; rfl)
          have HP := Lib.hid (paintB_iff.2 (show 0 ≤ x ∧ x < p by omega))
          go_wp2_with fail
          refine (isPaint_any p A n c x _).mono ?_
          rintro e w2 ⟨rfl, hb2⟩
          rw [HP.out]
          go_wp2
          go_roundw
          case rel => exact ⟨k + 1, x, by omega, by go_num, rfl, hb.trans hb2, HS2.out, by omega⟩
          case measure => simp [intOf]; omega
        · have HS2 := Lib.hid (show setB ns p = false by rw [← HS.out, HG.out, decide_eq_false h2]; simp)
          have HP := Lib.hid (paintB_no (a := x) (p := p) (by omega))
          clear h2
          go_wp2_with fail
          refine (isPaint_any p A n c x _).mono ?_
          rintro e w2 ⟨rfl, hb2⟩
          rw [HP.out]
          go_wp2
          go_ret
          exact ⟨ret_bool HS2.out.symm, by (repeat (first | exact Bel.refl _ | assumption | refine Bel.drew ?_ | refine Bel.drewN ?_ _ | refine Bel.alloc ?_ _ | refine Bel.setCell ?_ (by first | omega | (simp; done) | (simp; omega) | (simp at *; omega)) _ | refine Bel.trans ?_ (by assumption)))⟩
      · have HS2 := Lib.hid (show setB ns p = false by rw [← HS.out, HG.out, decide_eq_false h1]; simp)
        have h3 : x ≤ last := by omega
        clear h1
        go_wp2
        go_ret
        exact ⟨ret_bool HS2.out.symm, by (repeat (first | exact Bel.refl _ | assumption | refine Bel.drew ?_ | refine Bel.drewN ?_ _ | refine Bel.alloc ?_ _ | refine Bel.setCell ?_ (by first | omega | (simp; done) | (simp; omega) | (simp at *; omega)) _ | refine Bel.trans ?_ (by assumption)))⟩
    · obtain rfl : k = m := by omega
      have HQ := Lib.hid (show setB ns p = true by rw [← HS.out, List.drop_of_length_le (by rw [Hm.out]; omega)]; rfl)
      go_wp2
      go_ret
      exact ⟨ret_bool HQ.out.symm, hbw⟩
set_option maxRecDepth 100000 in
set_option maxHeartbeats 1000000 in
theorem sAlike_any (p : Nat) (M : Nat) (G : List (Nat × Nat)) (B : Option Addr) (m d : Nat) (l : List Nat) (b : Bool) (w : World) (hF : FM w M G) (hI : Ints w B (upN l)) (hm : l.length = m) (h100 : m ≤ 100) (hmd : m ≤ d) (hl : ∀ x ∈ l, x ≤ 1000) :
    Calls Try.prog 114 #[.agg #[.int .i64 (p : Int), .map (some M)], .slice B m d, .bool b] w fun e w' => e = .returned (.bool (alikeB G b l)) ∧ Bel w w' := by
  have Hm := Lib.hid hm
  have HLl := Lib.hid hl
  have hmi : (m : Int) ≤ 100 := by omega
  have hmdi : (m : Int) ≤ (d : Int) := by omega
  clear hm hl
  have Held := Lib.hid (fun w' (h : Bel (w.alloc (.cells #[.int .i64 (p : Int), .map (some M)] 70)) w') => box_shop h)
  go_enter Try.func114, Try.ntmps114
  go_wp2
  go_loopw [13] (fun i wr => ∃ k : Nat, k ≤ m ∧ i = .int .i64 k ∧ Bel (w.alloc (.cells #[.int .i64 (p : Int), .map (some M)] 70)) wr ∧ UpTo G b l k 0) (fun i _ => m - (intOf i).toNat)
  case atStart => exact ⟨0, Nat.zero_le _, rfl, Bel.refl _, UpTo.start G b l⟩
  case round =>
    obtain ⟨i, him, rfl, hb, hU⟩ := hrel
    have HU := Lib.hid hU
    have hbw : Bel w wr := ((Bel.refl w).alloc _).trans hb
    clear hU
    by_cases hlt : i < m
    · have hii : (i : Int) < (m : Int) := by omega
      have hid2 : (i : Int) ≤ (d : Int) := by omega
      have hidn : i ≤ d := by omega
      obtain ⟨a1, a2, y', rfl, hbl, hg, hc1⟩ := (hI.bel hbw).at_ (k := i) (by rw [upN_length, Hm.out]; exact hlt)
      obtain ⟨y, hy, rfl⟩ := upN_at hg
      have HY := Lib.hid hy
      have hy1 := HLl.out y (List.mem_of_getElem? hy)
      clear hg hy
      go_wp2
      go_loopw [22] (fun q wr => ∃ k : Nat, k ≤ i ∧ q = .int .i64 k ∧ Bel (w.alloc (.cells #[.int .i64 (p : Int), .map (some M)] 70)) wr ∧ UpTo G b l i k) (fun q _ => i - (intOf q).toNat)
      case atStart => exact ⟨0, Nat.zero_le _, rfl, hb, HU.out⟩
      case round =>
        clear hb hbl hc1 hbw
        obtain ⟨k, hk, rfl, hb, hU⟩ := hrel
        have HU2 := Lib.hid hU
        obtain ⟨b0, b1⟩ := Held.out _ hb
        have hbw : Bel w wr := ((Bel.refl w).alloc _).trans hb
        clear hU
        by_cases hlt2 : k < i
        · have hki : (k : Int) < (i : Int) := by omega
          obtain ⟨a3, a4, x', hA, hbl2, hg2, hc2⟩ := (hI.bel hbw).at_ (k := k) (by rw [upN_length, Hm.out]; omega)
          injection hA with hA; injection hA with e1 e2 e3; subst e1 e2
          obtain ⟨x, hx, rfl⟩ := upN_at hg2
          have HX := Lib.hid hx
          have hx1 := HLl.out x (List.mem_of_getElem? hx)
          obtain ⟨v, hv⟩ : ∃ v, v = hasG G x y := ⟨_, rfl⟩
          have HV := Lib.hid hv
          clear hg2 hx hv e3
          go_wp2_with fail
          refine (shas_any p M G x y _ (hF.bel hbw) hx1 hy1).mono ?_
          rintro e w2 ⟨rfl, hb2⟩
          rw [← HV.out]
          by_cases hvb : v = b
          · subst hvb
            have HU3 := Lib.hid (HU2.out.step HY.out HX.out HV.out.symm)
            go_wp2
            go_roundw
            case rel => exact ⟨k + 1, by omega, by go_num, hb.trans hb2, HU3.out⟩
            case measure => simp [intOf]; omega
          · have hvn : (v == b) = false := by simpa using hvb
            have HF := Lib.hid (alike_no (b := b) hlt2 HY.out HX.out (by rw [← HV.out]; exact hvb))
            clear hvb
            go_wp2
            go_ret
            exact ⟨ret_bool HF.out.symm, by (repeat (first | exact Bel.refl _ | assumption | refine Bel.drew ?_ | refine Bel.drewN ?_ _ | refine Bel.alloc ?_ _ | refine Bel.setCell ?_ (by first | omega | (simp; done) | (simp; omega) | (simp at *; omega)) _ | refine Bel.trans ?_ (by assumption)))⟩
        · obtain rfl : k = i := by omega
          have HU3 := Lib.hid HU2.out.next
          go_wp2
          go_roundw
          case rel => exact ⟨k + 1, by omega, by go_num, hb, HU3.out⟩
          case measure => simp [intOf]; omega
    · obtain rfl : i = m := by omega
      have HF := Lib.hid (show alikeB G b l = true by have := HU.out; rw [← Hm.out] at this; exact this.all)
      go_wp2
      go_ret
      exact ⟨ret_bool HF.out.symm, hbw⟩
set_option maxRecDepth 100000 in
set_option maxHeartbeats 1000000 in
theorem fis_any (p : Int) (A : Option Addr) (n c : Nat) (F : List (Int × Int)) (B : Option Addr) (m d : Nat) (l : List Int) (b : Bool) (w : World) (hR : Prs w A F) (hn : F.length = n) (h60 : n ≤ 900) (hI : Ints w B l) (hm : l.length = m) (h100 : m ≤ 100) (hmd : m ≤ d) :
    Calls Try.prog 86 #[.agg #[.int .i64 p, .slice A n c], .slice B m d, .bool b] w fun e w' => e = .returned (.tuple #[.bool (isV p F l b), .int .i64 (errT p F l)]) ∧ Bel w w' := by
  have Hn := Lib.hid hn
  have Hm := Lib.hid hm
  have Hmd := Lib.hid hmd
  clear hn hm hmd
  have Held := Lib.hid (fun w' (h : Bel (w.alloc (.cells #[.int .i64 p, .slice A n c] 24)) w') => pair_box h)
  by_cases he : errF p F = 0
  · have HE := Lib.hid he
    obtain ⟨⟨p1, p7⟩, -, -⟩ := errF_zero he
    cases hs : setB l p
    · have HT := Lib.hid (errT_no he hs)
      have HV := Lib.hid (isV_no (b := b) (show errT p F l ≠ 0 by rw [errT_no he hs]; decide))
      have HS := Lib.hid hs
      rw [HT.out, HV.out]
      clear he hs
      go_enter Try.func86, Try.ntmps86
      go_wp2_with fail
      refine (validate_any p A n c F _ (hR.bel (by (repeat (first | exact Bel.refl _ | assumption | refine Bel.drew ?_ | refine Bel.drewN ?_ _ | refine Bel.alloc ?_ _ | refine Bel.setCell ?_ (by first | omega | (simp; done) | (simp; omega) | (simp at *; omega)) _ | refine Bel.trans ?_ (by assumption))))) Hn.out h60).mono ?_
      rintro e w1 ⟨rfl, hb1⟩
      rw [HE.out]
      obtain ⟨b0, b1⟩ := Held.out _ hb1
      go_wp2_with fail
      refine (fIsSet_any p A n c B m d l _ (hI.bel (((Bel.refl w).alloc _).trans hb1)) Hm.out h100).mono ?_
      rintro e w2 ⟨rfl, hb2⟩
      rw [HS.out]
      go_wp2
      go_ret2
      exact ⟨rfl, by (repeat (first | exact Bel.refl _ | assumption | refine Bel.drew ?_ | refine Bel.drewN ?_ _ | refine Bel.alloc ?_ _ | refine Bel.setCell ?_ (by first | omega | (simp; done) | (simp; omega) | (simp at *; omega)) _ | refine Bel.trans ?_ (by assumption)))⟩
    · obtain ⟨q, G, rfl, rfl, hSh⟩ := shop_of he
      obtain ⟨k, rfl, hk⟩ := set_nat hs
      have HT := Lib.hid (errT_ok he hs)
      have HV := Lib.hid (isV_ok (b := b) hSh hs)
      have HS := Lib.hid hs
      have HG := Lib.hid (show G.length = n by rw [← Hn.out, up_length])
      have HK := Lib.hid (show k.length = m by rw [← Hm.out, upN_length])
      have HSm := Lib.hid hSh.small
      have HKs := Lib.hid (fun x (hx : x ∈ k) => hk x hx)
      have q7 := hSh.p7
      rw [HT.out, HV.out]
      clear he hs hSh hk
      go_enter Try.func86, Try.ntmps86
      go_wp2_with fail
      refine (validate_any q A n c (up G) _ (hR.bel (by (repeat (first | exact Bel.refl _ | assumption | refine Bel.drew ?_ | refine Bel.drewN ?_ _ | refine Bel.alloc ?_ _ | refine Bel.setCell ?_ (by first | omega | (simp; done) | (simp; omega) | (simp at *; omega)) _ | refine Bel.trans ?_ (by assumption))))) Hn.out h60).mono ?_
      rintro e w1 ⟨rfl, hb1⟩
      rw [HE.out]
      obtain ⟨b0, b1⟩ := Held.out _ hb1
      go_wp2_with fail
      refine (fIsSet_any q A n c B m d (upN k) _ (hI.bel (((Bel.refl w).alloc _).trans hb1)) Hm.out h100).mono ?_
      rintro e w2 ⟨rfl, hb2⟩
      rw [HS.out]
      clear b0 b1
      obtain ⟨b0, b1⟩ := Held.out _ (hb1.trans hb2)
      go_wp2_with fail
      refine (shopOf_any q A n c G _ (hR.bel (((Bel.refl w).alloc _).trans (hb1.trans hb2))) HG.out h60 HSm.out).mono ?_
      rintro e w3 ⟨M, rfl, hF, hb3, hM⟩
      go_wp2_with fail
      refine (sAlike_any q M G B m d k b _ hF (hI.bel (((Bel.refl w).alloc _).trans ((hb1.trans hb2).trans hb3))) HK.out h100 Hmd.out (fun x hx => by have := HKs.out x hx; omega)).mono ?_
      rintro e w4 ⟨rfl, hb4⟩
      go_wp2
      go_ret2
      exact ⟨rfl, by (repeat (first | exact Bel.refl _ | assumption | refine Bel.drew ?_ | refine Bel.drewN ?_ _ | refine Bel.alloc ?_ _ | refine Bel.setCell ?_ (by first | omega | (simp; done) | (simp; omega) | (simp at *; omega)) _ | refine Bel.trans ?_ (by assumption)))⟩
  · have HT := Lib.hid (errT_bad (l := l) he)
    have HV := Lib.hid (isV_no (b := b) (show errT p F l ≠ 0 by rw [errT_bad he]; exact he))
    rw [HT.out, HV.out]
    obtain ⟨x, hx⟩ : ∃ x, x = errF p F := ⟨_, rfl⟩
    have hne : (x != 0) = true := by rw [hx]; simpa using he
    have HX := Lib.hid hx
    rw [← hx]
    clear he hx
    go_enter Try.func86, Try.ntmps86
    go_wp2_with fail
    refine (validate_any p A n c F _ (hR.bel (by (repeat (first | exact Bel.refl _ | assumption | refine Bel.drew ?_ | refine Bel.drewN ?_ _ | refine Bel.alloc ?_ _ | refine Bel.setCell ?_ (by first | omega | (simp; done) | (simp; omega) | (simp at *; omega)) _ | refine Bel.trans ?_ (by assumption))))) Hn.out h60).mono ?_
    rintro e w1 ⟨rfl, hb1⟩
    rw [← HX.out]
    go_wp2
    go_ret2
    exact ⟨rfl, by (repeat (first | exact Bel.refl _ | assumption | refine Bel.drew ?_ | refine Bel.drewN ?_ _ | refine Bel.alloc ?_ _ | refine Bel.setCell ?_ (by first | omega | (simp; done) | (simp; omega) | (simp at *; omega)) _ | refine Bel.trans ?_ (by assumption)))⟩
set_option maxRecDepth 100000 in
theorem rIsCalm_any (p : Int) (A : Option Addr) (n c : Nat) (F : List (Int × Int)) (B : Option Addr) (m d : Nat) (l : List Int) (w : World) (hR : Prs w A F) (hn : F.length = n) (h60 : n ≤ 900) (hI : Ints w B l) (hm : l.length = m) (h100 : m ≤ 100) (hmd : m ≤ d) :
    Calls Try.prog 39 #[.agg #[.int .i64 p, .slice A n c], .slice B m d] w fun e w' => e = .returned (.tuple #[.bool (isV p F l false), .int .i64 (errT p F l)]) ∧ Bel w w' := by
  have Hn := Lib.hid hn
  have Hm := Lib.hid hm
  clear hn hm
  go_enter Try.func39, Try.ntmps39
  go_wp2_with fail
  refine (ris_any p A n c F B m d l false _ (hR.bel (by (repeat (first | exact Bel.refl _ | assumption | refine Bel.drew ?_ | refine Bel.drewN ?_ _ | refine Bel.alloc ?_ _ | refine Bel.setCell ?_ (by first | omega | (simp; done) | (simp; omega) | (simp at *; omega)) _ | refine Bel.trans ?_ (by assumption))))) Hn.out h60 (hI.bel (by (repeat (first | exact Bel.refl _ | assumption | refine Bel.drew ?_ | refine Bel.drewN ?_ _ | refine Bel.alloc ?_ _ | refine Bel.setCell ?_ (by first | omega | (simp; done) | (simp; omega) | (simp at *; omega)) _ | refine Bel.trans ?_ (by assumption))))) Hm.out h100 hmd).mono ?_
  rintro e w1 ⟨rfl, hb1⟩
  go_wp2
  go_ret2
  exact ⟨rfl, by (repeat (first | exact Bel.refl _ | assumption | refine Bel.drew ?_ | refine Bel.drewN ?_ _ | refine Bel.alloc ?_ _ | refine Bel.setCell ?_ (by first | omega | (simp; done) | (simp; omega) | (simp at *; omega)) _ | refine Bel.trans ?_ (by assumption)))⟩
set_option maxRecDepth 100000 in
theorem rIsBitter_any (p : Int) (A : Option Addr) (n c : Nat) (F : List (Int × Int)) (B : Option Addr) (m d : Nat) (l : List Int) (w : World) (hR : Prs w A F) (hn : F.length = n) (h60 : n ≤ 900) (hI : Ints w B l) (hm : l.length = m) (h100 : m ≤ 100) (hmd : m ≤ d) :
    Calls Try.prog 40 #[.agg #[.int .i64 p, .slice A n c], .slice B m d] w fun e w' => e = .returned (.tuple #[.bool (isV p F l true), .int .i64 (errT p F l)]) ∧ Bel w w' := by
  have Hn := Lib.hid hn
  have Hm := Lib.hid hm
  clear hn hm
  go_enter Try.func40, Try.ntmps40
  go_wp2_with fail
  refine (ris_any p A n c F B m d l true _ (hR.bel (by (repeat (first | exact Bel.refl _ | assumption | refine Bel.drew ?_ | refine Bel.drewN ?_ _ | refine Bel.alloc ?_ _ | refine Bel.setCell ?_ (by first | omega | (simp; done) | (simp; omega) | (simp at *; omega)) _ | refine Bel.trans ?_ (by assumption))))) Hn.out h60 (hI.bel (by (repeat (first | exact Bel.refl _ | assumption | refine Bel.drew ?_ | refine Bel.drewN ?_ _ | refine Bel.alloc ?_ _ | refine Bel.setCell ?_ (by first | omega | (simp; done) | (simp; omega) | (simp at *; omega)) _ | refine Bel.trans ?_ (by assumption))))) Hm.out h100 hmd).mono ?_
  rintro e w1 ⟨rfl, hb1⟩
  go_wp2
  go_ret2
  exact ⟨rfl, by (repeat (first | exact Bel.refl _ | assumption | refine Bel.drew ?_ | refine Bel.drewN ?_ _ | refine Bel.alloc ?_ _ | refine Bel.setCell ?_ (by first | omega | (simp; done) | (simp; omega) | (simp at *; omega)) _ | refine Bel.trans ?_ (by assumption)))⟩
set_option maxRecDepth 100000 in
theorem fIsCalm_any (p : Int) (A : Option Addr) (n c : Nat) (F : List (Int × Int)) (B : Option Addr) (m d : Nat) (l : List Int) (w : World) (hR : Prs w A F) (hn : F.length = n) (h60 : n ≤ 900) (hI : Ints w B l) (hm : l.length = m) (h100 : m ≤ 100) (hmd : m ≤ d) :
    Calls Try.prog 42 #[.agg #[.int .i64 p, .slice A n c], .slice B m d] w fun e w' => e = .returned (.tuple #[.bool (isV p F l false), .int .i64 (errT p F l)]) ∧ Bel w w' := by
  have Hn := Lib.hid hn
  have Hm := Lib.hid hm
  clear hn hm
  go_enter Try.func42, Try.ntmps42
  go_wp2_with fail
  refine (fis_any p A n c F B m d l false _ (hR.bel (by (repeat (first | exact Bel.refl _ | assumption | refine Bel.drew ?_ | refine Bel.drewN ?_ _ | refine Bel.alloc ?_ _ | refine Bel.setCell ?_ (by first | omega | (simp; done) | (simp; omega) | (simp at *; omega)) _ | refine Bel.trans ?_ (by assumption))))) Hn.out h60 (hI.bel (by (repeat (first | exact Bel.refl _ | assumption | refine Bel.drew ?_ | refine Bel.drewN ?_ _ | refine Bel.alloc ?_ _ | refine Bel.setCell ?_ (by first | omega | (simp; done) | (simp; omega) | (simp at *; omega)) _ | refine Bel.trans ?_ (by assumption))))) Hm.out h100 hmd).mono ?_
  rintro e w1 ⟨rfl, hb1⟩
  go_wp2
  go_ret2
  exact ⟨rfl, by (repeat (first | exact Bel.refl _ | assumption | refine Bel.drew ?_ | refine Bel.drewN ?_ _ | refine Bel.alloc ?_ _ | refine Bel.setCell ?_ (by first | omega | (simp; done) | (simp; omega) | (simp at *; omega)) _ | refine Bel.trans ?_ (by assumption)))⟩
set_option maxRecDepth 100000 in
theorem fIsBitter_any (p : Int) (A : Option Addr) (n c : Nat) (F : List (Int × Int)) (B : Option Addr) (m d : Nat) (l : List Int) (w : World) (hR : Prs w A F) (hn : F.length = n) (h60 : n ≤ 900) (hI : Ints w B l) (hm : l.length = m) (h100 : m ≤ 100) (hmd : m ≤ d) :
    Calls Try.prog 43 #[.agg #[.int .i64 p, .slice A n c], .slice B m d] w fun e w' => e = .returned (.tuple #[.bool (isV p F l true), .int .i64 (errT p F l)]) ∧ Bel w w' := by
  have Hn := Lib.hid hn
  have Hm := Lib.hid hm
  clear hn hm
  go_enter Try.func43, Try.ntmps43
  go_wp2_with fail
  refine (fis_any p A n c F B m d l true _ (hR.bel (by (repeat (first | exact Bel.refl _ | assumption | refine Bel.drew ?_ | refine Bel.drewN ?_ _ | refine Bel.alloc ?_ _ | refine Bel.setCell ?_ (by first | omega | (simp; done) | (simp; omega) | (simp at *; omega)) _ | refine Bel.trans ?_ (by assumption))))) Hn.out h60 (hI.bel (by (repeat (first | exact Bel.refl _ | assumption | refine Bel.drew ?_ | refine Bel.drewN ?_ _ | refine Bel.alloc ?_ _ | refine Bel.setCell ?_ (by first | omega | (simp; done) | (simp; omega) | (simp at *; omega)) _ | refine Bel.trans ?_ (by assumption))))) Hm.out h100 hmd).mono ?_
  rintro e w1 ⟨rfl, hb1⟩
  go_wp2
  go_ret2
  exact ⟨rfl, by (repeat (first | exact Bel.refl _ | assumption | refine Bel.drew ?_ | refine Bel.drewN ?_ _ | refine Bel.alloc ?_ _ | refine Bel.setCell ?_ (by first | omega | (simp; done) | (simp; omega) | (simp at *; omega)) _ | refine Bel.trans ?_ (by assumption)))⟩
end Go.Proofs.Ytcndmfkbfimllaa
