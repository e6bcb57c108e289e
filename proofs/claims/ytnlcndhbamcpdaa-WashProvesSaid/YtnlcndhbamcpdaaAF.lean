/- The document's IsFiner. -/
import Derived.Test.YtnlcndhbamcpdaaAE
namespace Go.Proofs.Ytnlcndhbamcpdaa
open Go.RowKit

set_option maxHeartbeats 400000 in
theorem two_any (A B : Option Addr) (n c m d : Nat) (gs hs : List (Int × Int)) (w : World) (hR : Prs w A gs) (hS : Prs w B hs) (hn : gs.length = n) (hm : hs.length = m) (hmax : n ≤ maxLen) (hmax2 : m ≤ maxLen) :
    Calls Try.prog 101 #[.slice A n c, .slice B m d] w fun e w' => e = .returned (.int .i64 (errF gs hs)) ∧ Bel w w' := by
  by_cases e1 : errV gs = 0
  · have HE1 := Lib.hid e1
    by_cases e2 : errV hs = 0
    · have HE2 := Lib.hid e2
      have hbz : errB gs hs = 0 := by unfold errB; rw [if_pos e1, e2]
      have f1 := fit_of gs e1
      have f2 := fit_of hs e2
      have l1 := (errV_zero e1).1
      have l2 := (errV_zero e2).1
      have S1 := Lib.hid (sumB_all f1)
      have S2 := Lib.hid (sumB_all f2)
      have hv : errF gs hs = if sumM gs = sumM hs then 0 else 5 := by unfold errF; rw [if_pos hbz]
      have HV := Lib.hid hv
      clear hv hbz e1 e2
      by_cases hq : sumM gs = sumM hs
      · have hne : (sumM gs != sumM hs) = false := by simpa using hq
        have HV2 : Hid (errF gs hs = 0) := by show _ = _; rw [HV.out, if_pos hq]
        clear hq
        go_enter Try.func101, Try.ntmps101
        go_wp2_with fail
        refine (rvalidate_any A n c gs _ hR hn hmax).mono ?_
        rintro e w1 ⟨rfl, hb1⟩
        rw [HE1.out]
        go_wp2_with fail
        refine (rvalidate_any B m d hs _ (hS.bel hb1) hm hmax2).mono ?_
        rintro e w2 ⟨rfl, hb2⟩
        rw [HE2.out]
        have hb12 := hb1.trans hb2
        go_wp2_with fail
        refine (below_any A n c gs 20 _ (hR.bel hb12) hn (by omega) f1.mass).mono ?_
        rintro e w3 ⟨rfl, rfl⟩
        rw [S1.out]
        go_wp2_with fail
        refine (below_any B m d hs 20 _ (hS.bel hb12) hm (by omega) f2.mass).mono ?_
        rintro e w3 ⟨rfl, rfl⟩
        rw [S2.out]
        go_wp2
        go_ret
        exact ⟨ret_int HV2.out.symm, hb12⟩
      · have hne : (sumM gs != sumM hs) = true := by simpa using hq
        have HV2 : Hid (errF gs hs = 5) := by show _ = _; rw [HV.out, if_neg hq]
        clear hq
        go_enter Try.func101, Try.ntmps101
        go_wp2_with fail
        refine (rvalidate_any A n c gs _ hR hn hmax).mono ?_
        rintro e w1 ⟨rfl, hb1⟩
        rw [HE1.out]
        go_wp2_with fail
        refine (rvalidate_any B m d hs _ (hS.bel hb1) hm hmax2).mono ?_
        rintro e w2 ⟨rfl, hb2⟩
        rw [HE2.out]
        have hb12 := hb1.trans hb2
        go_wp2_with fail
        refine (below_any A n c gs 20 _ (hR.bel hb12) hn (by omega) f1.mass).mono ?_
        rintro e w3 ⟨rfl, rfl⟩
        rw [S1.out]
        go_wp2_with fail
        refine (below_any B m d hs 20 _ (hS.bel hb12) hm (by omega) f2.mass).mono ?_
        rintro e w3 ⟨rfl, rfl⟩
        rw [S2.out]
        go_wp2
        go_ret
        exact ⟨ret_int HV2.out.symm, hb12⟩
    · have hv : errF gs hs = errV hs := by
        have hbz : errB gs hs = errV hs := by unfold errB; rw [if_pos e1]
        unfold errF
        rw [hbz, if_neg e2]
      have HV := Lib.hid hv
      have hne : (errV hs != 0) = true := by simpa using e2
      clear hv e1
      go_enter Try.func101, Try.ntmps101
      go_wp2_with fail
      refine (rvalidate_any A n c gs _ hR hn hmax).mono ?_
      rintro e w1 ⟨rfl, hb1⟩
      rw [HE1.out]
      go_wp2_with fail
      refine (rvalidate_any B m d hs _ (hS.bel hb1) hm hmax2).mono ?_
      rintro e w2 ⟨rfl, hb2⟩
      go_wp2
      go_ret
      exact ⟨ret_int HV.out.symm, hb1.trans hb2⟩
  · have hv : errF gs hs = errV gs := by
      have hbz : errB gs hs = errV gs := by unfold errB; rw [if_neg e1]
      unfold errF
      rw [hbz, if_neg e1]
    have HV := Lib.hid hv
    have hne : (errV gs != 0) = true := by simpa using e1
    clear hv
    go_enter Try.func101, Try.ntmps101
    go_wp2_with fail
    refine (rvalidate_any A n c gs _ hR hn hmax).mono ?_
    rintro e w1 ⟨rfl, hb1⟩
    go_wp2
    go_ret
    exact ⟨ret_int HV.out.symm, hb1⟩

set_option maxHeartbeats 400000 in
theorem rFiner_any (A B : Option Addr) (n c m d : Nat) (gs hs : List (Int × Int)) (w : World) (hR : Prs w A gs) (hS : Prs w B hs) (hn : gs.length = n) (hm : hs.length = m) (hmax : n ≤ maxLen) (hmax2 : m ≤ maxLen) :
    Calls Try.prog 76 #[.slice A n c, .slice B m d] w fun e w' => e = .returned (boolE (finV gs hs)) ∧ Bel w w' := by
  by_cases he : errF gs hs = 0
  · obtain ⟨e1, e2, e3⟩ := errF_zero he
    have f1 := fit_of gs e1
    have f2 := fit_of hs e2
    have l1 := (errV_zero e1).1
    have l2 := (errV_zero e2).1
    have hv : finV gs hs = (finB gs hs, 0) := by unfold finV; rw [if_pos he]
    have HV := Lib.hid hv; clear hv
    have HE := Lib.hid he; clear he
    clear e1 e2 e3
    have Z1 := Lib.hid (sumB_low f1 (z := ((0 : Nat) : Int)) (by omega))
    have Z2 := Lib.hid (sumB_low f2 (z := ((0 : Nat) : Int)) (by omega))
    go_enter Try.func76, Try.ntmps76
    go_wp2_with fail
    refine (two_any A B n c m d gs hs _ hR hS hn hm hmax hmax2).mono ?_
    rintro e w1 ⟨rfl, hb1⟩
    rw [HE.out]
    go_wp2_with fail
    go_loop [7] (fun i => ∃ k : Nat, 1 ≤ k ∧ k ≤ 21 ∧ i = .int .i64 k ∧ ∀ j : Nat, j < k → sumB hs j ≤ sumB gs j) (fun i => 21 - (intOf i).toNat)
    case atStart =>
      refine ⟨1, Nat.le_refl _, by omega, rfl, fun j hj => ?_⟩
      obtain rfl : j = 0 := by omega
      rw [Z1.out, Z2.out]
      exact Int.le_refl _
    case round =>
      obtain ⟨k, hk1, hk, rfl, hj⟩ := hrel
      have HJ := Lib.hid hj; clear hj
      by_cases hlt : k < 21
      · by_cases hf : sumB hs k ≤ sumB gs k
        · have HF := Lib.hid hf
          go_wp2_with fail
          refine (below_any A n c gs k _ (hR.bel hb1) hn (by omega) f1.mass).mono ?_
          rintro e w3 ⟨rfl, rfl⟩
          go_wp2_with fail
          refine (below_any B m d hs k _ (hS.bel hb1) hm (by omega) f2.mass).mono ?_
          rintro e w3 ⟨rfl, rfl⟩
          go_wp2
          go_round
          case rel =>
            refine ⟨k + 1, by omega, by omega, by go_num, fun j hj => ?_⟩
            by_cases hjk : j = k
            · subst hjk; exact HF.out
            · exact HJ.out j (by omega)
          case measure => simp [intOf]; omega
        · have HF : Hid (finB gs hs = false) := finB_false hlt hf
          go_wp2_with fail
          refine (below_any A n c gs k _ (hR.bel hb1) hn (by omega) f1.mass).mono ?_
          rintro e w3 ⟨rfl, rfl⟩
          go_wp2_with fail
          refine (below_any B m d hs k _ (hS.bel hb1) hm (by omega) f2.mass).mono ?_
          rintro e w3 ⟨rfl, rfl⟩
          go_wp2
          go_ret2
          exact ⟨boolE_mk (by rw [HV.out, HF.out]), hb1⟩
      · obtain rfl : k = 21 := by omega
        have HF : Hid (finB gs hs = true) := finB_true HJ.out
        go_wp2
        go_ret2
        exact ⟨boolE_mk (by rw [HV.out, HF.out]), hb1⟩
  · have hv : finV gs hs = (false, errF gs hs) := by unfold finV; rw [if_neg he]
    have HV := Lib.hid hv; clear hv
    have hne : (errF gs hs != 0) = true := by simpa using he
    go_enter Try.func76, Try.ntmps76
    go_wp2_with fail
    refine (two_any A B n c m d gs hs _ hR hS hn hm hmax hmax2).mono ?_
    rintro e w1 ⟨rfl, hb1⟩
    go_wp2
    go_ret2
    exact ⟨boolE_mk HV.out, hb1⟩
end Go.Proofs.Ytnlcndhbamcpdaa
