/- The document's CheckFiner. -/
import Derived.Test.YtnlcndhbamcpdaaMG
namespace Go.Proofs.Ytnlcndhbamcpdaa
open Go.RowKit

set_option maxHeartbeats 400000 in
theorem rCheck_any (A B C : Option Addr) (n c m d l k : Nat) (gs hs : List (Int × Int)) (ms : List (Int × Int × Int)) (w : World) (hR : Prs w A gs) (hS : Prs w B hs) (hT : Trs w C ms) (hn : gs.length = n) (hm : hs.length = m) (hl : ms.length = l) (hmax : n ≤ maxLen) (hmax2 : m ≤ maxLen) (hmax3 : l ≤ maxLen) :
    Calls Try.prog 81 #[.slice A n c, .slice B m d, .slice C l k] w fun e w' => e = .returned (.int .i64 (checkE gs hs ms)) ∧ Bel w w' := by
  have hmx : 6 ≤ maxLen := by unfold maxLen; omega
  by_cases e1 : errF gs hs = 0
  · by_cases e2 : grindE hs ms = 0
    · obtain ⟨h1, h2, G, hG, hL⟩ := grindE_zero e2
      have hl6 := (errV_zero hL).1
      have hv : checkE gs hs ms = if same (lotF G) gs = true then 0 else 7 := by unfold checkE; rw [if_pos e1, if_pos e2, hG]
      have HV := Lib.hid hv
      have HE1 := Lib.hid e1; have H1 := Lib.hid h1; have H2 := Lib.hid h2; have HG := Lib.hid hG; have HL := Lib.hid hL
      clear hv e1 e2 h1 h2 hG hL
      go_enter Try.func81, Try.ntmps81
      go_wp2_with fail
      refine (two_any A B n c m d gs hs _ hR hS hn hm hmax hmax2).mono ?_
      rintro e w1 ⟨rfl, hb1⟩
      rw [HE1.out]
      go_wp2_with fail
      refine (rGrind_any B C m d l k hs ms _ (hS.bel hb1) (hT.bel hb1) hm hl hmax2 hmax3).mono ?_
      intro e w2 g2
      obtain ⟨A1, n1, c1, rfl, hn1, hc1, hm1, hb2, hp1⟩ := GrindAns.ok g2 H1.out H2.out HG.out HL.out
      have HN1 := Lib.hid hn1.symm
      rw [← hn1] at hl6
      clear hn1 g2
      go_wp2_with fail
      refine (sameLot_any A1 A n1 c1 n c _ _ _ hp1 (hR.bel (hb1.trans hb2)) HN1.out hn (by omega) hmax).mono ?_
      rintro e w3 ⟨rfl, hb3⟩
      have hb03 := (hb1.trans hb2).trans hb3
      cases hsm : same (lotF G) gs
      · have HW : Hid (checkE gs hs ms = 7) := by show _ = _; rw [HV.out, hsm]; rfl
        go_wp2
        go_ret
        exact ⟨ret_int HW.out.symm, hb03⟩
      · have HW : Hid (checkE gs hs ms = 0) := by show _ = _; rw [HV.out, hsm]; rfl
        go_wp2
        go_ret
        exact ⟨ret_int HW.out.symm, hb03⟩
    · have hv : checkE gs hs ms = grindE hs ms := by unfold checkE; rw [if_pos e1, if_neg e2]
      have hne : (grindE hs ms != 0) = true := by simpa using e2
      have HV := Lib.hid hv; have HE1 := Lib.hid e1; have HE2 := Lib.hid e2
      clear hv e1 e2
      go_enter Try.func81, Try.ntmps81
      go_wp2_with fail
      refine (two_any A B n c m d gs hs _ hR hS hn hm hmax hmax2).mono ?_
      rintro e w1 ⟨rfl, hb1⟩
      rw [HE1.out]
      go_wp2_with fail
      refine (rGrind_any B C m d l k hs ms _ (hS.bel hb1) (hT.bel hb1) hm hl hmax2 hmax3).mono ?_
      intro e w2 g2
      obtain ⟨rfl, hb2⟩ := GrindAns.err g2 HE2.out
      clear g2
      go_wp2
      go_ret
      exact ⟨ret_int HV.out.symm, hb1.trans hb2⟩
  · have hv : checkE gs hs ms = errF gs hs := by unfold checkE; rw [if_neg e1]
    have hne : (errF gs hs != 0) = true := by simpa using e1
    have HV := Lib.hid hv
    clear hv
    go_enter Try.func81, Try.ntmps81
    go_wp2_with fail
    refine (two_any A B n c m d gs hs _ hR hS hn hm hmax hmax2).mono ?_
    rintro e w1 ⟨rfl, hb1⟩
    go_wp2
    go_ret
    exact ⟨ret_int HV.out.symm, hb1⟩

end Go.Proofs.Ytnlcndhbamcpdaa
