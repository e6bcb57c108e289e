/- CheckFiner and Work. -/
import Derived.Test.YtmbhhooiaonhjaaMF
namespace Go.Proofs.Ytmbhhooiaonhjaa
open Go.RowKit

set_option maxHeartbeats 400000 in
theorem equal_any (A B : Option Addr) (n c n' c' : Nat) (xs ys : List (Int × Int)) (w : World) (hA : Prs w A xs) (hB : Prs w B ys) (hn : xs.length = n) (hn' : ys.length = n') (hmax : n ≤ maxLen) (hmax' : n' ≤ maxLen) :
    Calls Try.prog 51 #[.slice A n c, .slice B n' c'] w fun e w' => e = .returned (.bool (same xs ys)) ∧ Bel w w' := by
  unfold maxLen at hmax hmax'
  by_cases hl : n = n'
  · subst hl
    have Hn := Lib.hid hn; clear hn
    have Hn' := Lib.hid hn'; clear hn'
    go_enter Try.func51, Try.ntmps51
    go_wp2
    go_loopw [5, 13] (fun _ i wr => ∃ k : Nat, k ≤ n ∧ i = .int .i64 k ∧ Bel w wr ∧ xs.take k = ys.take k) (fun _ i _ => n - (intOf i).toNat)
    case atStart => exact ⟨0, Nat.zero_le _, rfl, Bel.refl _, rfl⟩
    case round =>
      obtain ⟨k, hk, rfl, hb, ht⟩ := hrel
      have HT := Lib.hid ht; clear ht
      by_cases hlt : k < n
      · obtain ⟨b, o, s, m, rfl, hbl, hg, hc1, hc2⟩ := (hA.bel hb).at_ (k := k) (by rw [Hn.out]; exact hlt)
        obtain ⟨b', o', s', m', rfl, hbl', hg', hc1', hc2'⟩ := (hB.bel hb).at_ (k := k) (by rw [Hn'.out]; exact hlt)
        have hkn : (k : Int) < (n : Int) := by omega
        have hk0 : (0 : Int) ≤ (k : Int) := by omega
        by_cases he : s = s' ∧ m = m'
        · obtain ⟨rfl, rfl⟩ := he
          have HF : Hid (xs.take (k + 1) = ys.take (k + 1)) := by
            show _ = _
            rw [take_at hg, take_at hg', HT.out]
          clear hg hg'
          go_wp2
          go_quiet (fail)
          go_wp2
          go_roundw
          case rel => exact ⟨k + 1, by omega, by go_num, by (repeat (first | exact Bel.refl _ | assumption | refine Bel.drew ?_ | refine Bel.drewN ?_ _ | refine Bel.alloc ?_ _ | refine Bel.setCell ?_ (by first | omega | (simp; done) | (simp; omega) | (simp at *; omega)) _ | refine Bel.trans ?_ (by assumption))), HF.out⟩
          case measure => simp [intOf]; omega
        · have HF : Hid (same xs ys = false) := same_at hg hg' (fun e => he (by injection e with a b; exact ⟨a, b⟩))
          clear hg hg'
          by_cases hs : s = s'
          · subst hs
            have hd : (m == m') = false := by simpa using he
            clear he
            go_wp2
            go_quiet (fail)
            go_wp2
            go_ret
            exact ⟨ret_bool HF.out.symm, by (repeat (first | exact Bel.refl _ | assumption | refine Bel.drew ?_ | refine Bel.drewN ?_ _ | refine Bel.alloc ?_ _ | refine Bel.setCell ?_ (by first | omega | (simp; done) | (simp; omega) | (simp at *; omega)) _ | refine Bel.trans ?_ (by assumption)))⟩
          · have hd : (s == s') = false := by simpa using hs
            clear he hs
            go_wp2
            go_quiet (fail)
            go_wp2
            go_ret
            exact ⟨ret_bool HF.out.symm, by (repeat (first | exact Bel.refl _ | assumption | refine Bel.drew ?_ | refine Bel.drewN ?_ _ | refine Bel.alloc ?_ _ | refine Bel.setCell ?_ (by first | omega | (simp; done) | (simp; omega) | (simp at *; omega)) _ | refine Bel.trans ?_ (by assumption)))⟩
      · obtain rfl : k = n := by omega
        have HF : Hid (same xs ys = true) := same_end Hn.out Hn'.out HT.out
        go_wp2
        go_ret
        exact ⟨ret_bool HF.out.symm, hb⟩
  · have HF : Hid (same xs ys = false) := same_len (by rw [hn, hn']; exact hl)
    have hne : ((n : Int) != (n' : Int)) = true := by rw [bne_iff_ne]; omega
    clear hn hn'
    go_enter Try.func51, Try.ntmps51
    go_wp2
    go_ret
    exact ⟨ret_bool HF.out.symm, Bel.refl _⟩
set_option maxHeartbeats 400000 in
theorem wCheck_any (A B C : Option Addr) (n c m d l k : Nat) (gs hs : List (Int × Int)) (ms : List (Int × Int × Int)) (w : World) (hR : Prs w A gs) (hS : Prs w B hs) (hT : Trs w C ms) (hn : gs.length = n) (hm : hs.length = m) (hl : ms.length = l) (hmax : n ≤ maxLen) (hmax2 : m ≤ maxLen) (hmax3 : l ≤ maxLen) :
    Calls Try.prog 32 #[.slice A n c, .slice B m d, .slice C l k] w fun e w' => e = .returned (.int .i64 (checkE gs hs ms)) ∧ Bel w w' := by
  have hmx : 6 ≤ maxLen := by unfold maxLen; omega
  by_cases e1 : errF gs hs = 0
  · by_cases e2 : grindE hs ms = 0
    · obtain ⟨h1, h2, G, hG, hL⟩ := grindE_zero e2
      have hl6 := (errV_zero hL).1
      have hv : checkE gs hs ms = if same (lotF G) gs = true then 0 else 7 := by unfold checkE; rw [if_pos e1, if_pos e2, hG]
      have HV := Lib.hid hv
      have HE1 := Lib.hid e1; have H1 := Lib.hid h1; have H2 := Lib.hid h2; have HG := Lib.hid hG; have HL := Lib.hid hL
      clear hv e1 e2 h1 h2 hG hL
      go_enter Try.func32, Try.ntmps32
      go_wp2_with fail
      refine (fit_any A B n c m d gs hs _ hR hS hn hm hmax hmax2).mono ?_
      rintro e w1 ⟨rfl, hb1⟩
      rw [HE1.out]
      go_wp2_with fail
      refine (wGrind_any B C m d l k hs ms _ (hS.bel hb1) (hT.bel hb1) hm hl hmax2 hmax3).mono ?_
      intro e w2 g2
      obtain ⟨A1, n1, c1, rfl, hn1, hc1, hm1, hb2, hp1⟩ := GrindAns.ok g2 H1.out H2.out HG.out HL.out
      have HN1 := Lib.hid hn1.symm
      rw [← hn1] at hl6
      clear hn1 g2
      go_wp2_with fail
      refine (equal_any A1 A n1 c1 n c _ _ _ hp1 (hR.bel (hb1.trans hb2)) HN1.out hn (by omega) hmax).mono ?_
      rintro e w3 ⟨rfl, hb3⟩
      have hb03 := (hb1.trans hb2).trans hb3
      cases hsm : same (lotF G) gs
      · have HW : Hid (checkE gs hs ms = 7) := by show _ = _; rw [HV.out, hsm]; rfl
        go_wp2
        go_ret
        exact ⟨ret_int HW.out.symm, hb03⟩
      · have HW : Hid (checkE gs hs ms = 0) := by show _ = _; rw [HV.out, hsm]; rfl
        go_wp2
        go_ret
        exact ⟨ret_int HW.out.symm, hb03⟩
    · have hv : checkE gs hs ms = grindE hs ms := by unfold checkE; rw [if_pos e1, if_neg e2]
      have hne : (grindE hs ms != 0) = true := by simpa using e2
      have HV := Lib.hid hv; have HE1 := Lib.hid e1; have HE2 := Lib.hid e2
      clear hv e1 e2
      go_enter Try.func32, Try.ntmps32
      go_wp2_with fail
      refine (fit_any A B n c m d gs hs _ hR hS hn hm hmax hmax2).mono ?_
      rintro e w1 ⟨rfl, hb1⟩
      rw [HE1.out]
      go_wp2_with fail
      refine (wGrind_any B C m d l k hs ms _ (hS.bel hb1) (hT.bel hb1) hm hl hmax2 hmax3).mono ?_
      intro e w2 g2
      obtain ⟨rfl, hb2⟩ := GrindAns.err g2 HE2.out
      clear g2
      go_wp2
      go_ret
      exact ⟨ret_int HV.out.symm, hb1.trans hb2⟩
  · have hv : checkE gs hs ms = errF gs hs := by unfold checkE; rw [if_neg e1]
    have hne : (errF gs hs != 0) = true := by simpa using e1
    have HV := Lib.hid hv
    clear hv
    go_enter Try.func32, Try.ntmps32
    go_wp2_with fail
    refine (fit_any A B n c m d gs hs _ hR hS hn hm hmax hmax2).mono ?_
    rintro e w1 ⟨rfl, hb1⟩
    go_wp2
    go_ret
    exact ⟨ret_int HV.out.symm, hb1⟩

/-- Work's answer. -/
def workE (gs hs : List (Int × Int)) : Value := if (finV gs hs).1 = true then .tuple #[.int .i64 (sumS hs - sumS gs), .bool true, .int .i64 0] else .tuple #[.int .i64 0, .bool false, .int .i64 (finV gs hs).2]
theorem finV_true {gs hs : List (Int × Int)} (h : (finV gs hs).1 = true) : errF gs hs = 0 ∧ finB gs hs = true ∧ finV gs hs = (true, 0) := by
  unfold finV at h ⊢
  split at h
  · rename_i a
    rw [if_pos a]
    exact ⟨a, h, by simp only at h; rw [h]⟩
  · cases h
theorem workE_yes {gs hs : List (Int × Int)} (h : (finV gs hs).1 = true) {x : Int} (hx : x = sumS hs - sumS gs) : Ending.returned (.tuple #[.int .i64 x, .bool true, .int .i64 0]) = .returned (workE gs hs) := by unfold workE; rw [if_pos h, hx]
theorem workE_no {gs hs : List (Int × Int)} (h : (finV gs hs).1 = false) : Ending.returned (.tuple #[.int .i64 0, .bool false, .int .i64 (finV gs hs).2]) = .returned (workE gs hs) := by unfold workE; rw [if_neg (by rw [h]; decide)]

set_option maxHeartbeats 400000 in
theorem wWork_any (A B : Option Addr) (n c m d : Nat) (gs hs : List (Int × Int)) (w : World) (hR : Prs w A gs) (hS : Prs w B hs) (hn : gs.length = n) (hm : hs.length = m) (hmax : n ≤ maxLen) (hmax2 : m ≤ maxLen) :
    Calls Try.prog 31 #[.slice A n c, .slice B m d] w fun e w' => e = .returned (workE gs hs) ∧ Bel w w' := by
  cases hf : (finV gs hs).1
  · have HF := Lib.hid hf
    go_enter Try.func31, Try.ntmps31
    go_wp2_with fail
    refine (wFiner_any A B n c m d gs hs _ hR hS hn hm hmax hmax2).mono ?_
    rintro e w1 ⟨rfl, hb1⟩
    unfold boolE
    rw [hf]
    go_wp2
    go_ret3
    exact ⟨workE_no HF.out, hb1⟩
  · have HF := Lib.hid hf
    obtain ⟨a, b, hv⟩ := finV_true hf
    obtain ⟨e1, e2, e3⟩ := errF_zero a
    have f1 := fit_of gs e1
    have f2 := fit_of hs e2
    have l1 := (errV_zero e1).1
    have l2 := (errV_zero e2).1
    obtain ⟨s1, s2⟩ := sumS_bd f1
    obtain ⟨s3, s4⟩ := sumS_bd f2
    have HV := Lib.hid hv
    clear a b hv e1 e2 e3 hf
    go_enter Try.func31, Try.ntmps31
    go_wp2_with fail
    refine (wFiner_any A B n c m d gs hs _ hR hS hn hm hmax hmax2).mono ?_
    rintro e w1 ⟨rfl, hb1⟩
    rw [HV.out]
    unfold boolE
    go_wp2_with fail
    refine (momentOf_any B m d hs _ (hS.bel hb1) hm (by omega) f2).mono ?_
    rintro e w2 ⟨rfl, hb2⟩
    go_wp2_with fail
    refine (momentOf_any A n c gs _ (hR.bel (hb1.trans hb2)) hn (by omega) f1).mono ?_
    rintro e w3 ⟨rfl, hb3⟩
    go_wp2
    go_ret3
    exact ⟨workE_yes HF.out rfl, (hb1.trans hb2).trans hb3⟩
end Go.Proofs.Ytmbhhooiaonhjaa

