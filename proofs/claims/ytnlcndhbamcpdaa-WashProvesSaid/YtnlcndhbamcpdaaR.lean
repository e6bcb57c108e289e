/- Mass and Below. -/
import Derived.Test.YtnlcndhbamcpdaaQ
namespace Go.Proofs.Ytnlcndhbamcpdaa
open Go.RowKit

def belowV (gs : List (Int × Int)) (size : Int) : Int := if errV gs = 0 then sumB gs size else 0
theorem belowV_err {gs : List (Int × Int)} {size : Int} (h : ¬ errV gs = 0) : belowV gs size = 0 := by unfold belowV; rw [if_neg h]
theorem belowV_ok {gs : List (Int × Int)} {size : Int} (h : errV gs = 0) : belowV gs size = sumB gs size := by unfold belowV; rw [if_pos h]
theorem tup_int {a b c d : Int} (h : a = b) (h' : c = d) : Ending.returned (.tuple #[.int .i64 a, .int .i64 c]) = .returned (.tuple #[.int .i64 b, .int .i64 d]) := by rw [h, h']

set_option maxHeartbeats 400000 in
theorem long_any (A : Option Addr) (n c : Nat) (w : World) : Calls Try.prog 41 #[.slice A n c] w fun e w' => e = .returned (.bool (decide (40 < n))) ∧ w = w' := by
  go_enter Try.func41, Try.ntmps41
  go_wp2
  go_ret
  exact ⟨by simp; omega, rfl⟩

set_option maxHeartbeats 400000 in
theorem rMass_any (A : Option Addr) (n c : Nat) (gs : List (Int × Int)) (w : World) (hR : Prs w A gs) (hn : gs.length = n) (hlen : n ≤ 40) :
    Calls Try.prog 42 #[.slice A n c] w fun e w' => e = .returned (.tuple #[.int .i64 (belowV gs 20), .int .i64 (errV gs)]) ∧ Bel w w' := by
  by_cases he : errV gs = 0
  · have hv := belowV_ok (size := 20) he
    have HV := Lib.hid hv; clear hv
    have hm := (fit_of gs he).mass
    have HE := Lib.hid he; clear he
    go_enter Try.func42, Try.ntmps42
    go_wp2_with fail
    refine (rvalidate_any A n c gs _ hR hn (by unfold maxLen; omega)).mono ?_
    rintro e w1 ⟨rfl, hb1⟩
    rw [HE.out]
    go_wp2_with fail
    refine (below_any A n c gs 20 _ (hR.bel hb1) hn hlen hm).mono ?_
    rintro e w2 ⟨rfl, rfl⟩
    go_wp2
    go_ret2
    exact ⟨tup_int HV.out.symm HE.out.symm, hb1⟩
  · have hv := belowV_err (size := 20) he
    have hne : (errV gs != 0) = true := by simpa using he
    rw [hv]
    clear hv
    go_enter Try.func42, Try.ntmps42
    go_wp2_with fail
    refine (rvalidate_any A n c gs _ hR hn (by unfold maxLen; omega)).mono ?_
    rintro e w1 ⟨rfl, hb1⟩
    go_wp2
    go_ret2
    exact ⟨rfl, hb1⟩

set_option maxHeartbeats 400000 in
theorem rBelow_any (A : Option Addr) (n c : Nat) (gs : List (Int × Int)) (size : Int) (w : World) (hR : Prs w A gs) (hn : gs.length = n) (hlen : n ≤ 40) :
    Calls Try.prog 43 #[.slice A n c, .int .i64 size] w fun e w' => e = .returned (.tuple #[.int .i64 (belowV gs size), .int .i64 (errV gs)]) ∧ Bel w w' := by
  by_cases he : errV gs = 0
  · have hv := belowV_ok (size := size) he
    have HV := Lib.hid hv; clear hv
    have hm := (fit_of gs he).mass
    have HE := Lib.hid he; clear he
    go_enter Try.func43, Try.ntmps43
    go_wp2_with fail
    refine (rvalidate_any A n c gs _ hR hn (by unfold maxLen; omega)).mono ?_
    rintro e w1 ⟨rfl, hb1⟩
    rw [HE.out]
    go_wp2_with fail
    refine (below_any A n c gs size _ (hR.bel hb1) hn hlen hm).mono ?_
    rintro e w2 ⟨rfl, rfl⟩
    go_wp2
    go_ret2
    exact ⟨tup_int HV.out.symm HE.out.symm, hb1⟩
  · have hv := belowV_err (size := size) he
    have hne : (errV gs != 0) = true := by simpa using he
    rw [hv]
    clear hv
    go_enter Try.func43, Try.ntmps43
    go_wp2_with fail
    refine (rvalidate_any A n c gs _ hR hn (by unfold maxLen; omega)).mono ?_
    rintro e w1 ⟨rfl, hb1⟩
    go_wp2
    go_ret2
    exact ⟨rfl, hb1⟩

set_option maxHeartbeats 400000 in
theorem wMass_any (A : Option Addr) (n c : Nat) (gs : List (Int × Int)) (w : World) (hR : Prs w A gs) (hn : gs.length = n) (hlen : n ≤ maxLen) :
    Calls Try.prog 44 #[.slice A n c] w fun e w' => e = .returned (.tuple #[.int .i64 (belowV gs 20), .int .i64 (errV gs)]) ∧ Bel w w' := by
  by_cases he : errV gs = 0
  · have hv : belowV gs 20 = sumM gs := by rw [belowV_ok he, sumB_all (fit_of gs he)]
    have HV := Lib.hid hv; clear hv
    have hm := fit_of gs he
    have h6 := (errV_zero he).1
    have HE := Lib.hid he; clear he
    go_enter Try.func44, Try.ntmps44
    go_wp2_with fail
    refine (validate_any A n c gs _ hR hn hlen).mono ?_
    rintro e w1 ⟨rfl, hb1⟩
    rw [HE.out]
    go_wp2_with fail
    refine (massOf_any A n c gs _ (hR.bel hb1) hn (by omega) hm).mono ?_
    rintro e w2 ⟨rfl, hb2⟩
    go_wp2
    go_ret2
    exact ⟨tup_int HV.out.symm HE.out.symm, hb1.trans hb2⟩
  · have hv := belowV_err (size := 20) he
    have hne : (errV gs != 0) = true := by simpa using he
    rw [hv]
    clear hv
    go_enter Try.func44, Try.ntmps44
    go_wp2_with fail
    refine (validate_any A n c gs _ hR hn hlen).mono ?_
    rintro e w1 ⟨rfl, hb1⟩
    go_wp2
    go_ret2
    exact ⟨rfl, hb1⟩

set_option maxHeartbeats 400000 in
theorem wBelow_any (A : Option Addr) (n c : Nat) (gs : List (Int × Int)) (size : Int) (w : World) (hR : Prs w A gs) (hn : gs.length = n) (hlen : n ≤ maxLen) (hc : n ≤ c) (hc2 : c ≤ maxLen) :
    Calls Try.prog 45 #[.slice A n c, .int .i64 size] w fun e w' => e = .returned (.tuple #[.int .i64 (belowV gs size), .int .i64 (errV gs)]) ∧ Bel w w' := by
  by_cases he : errV gs = 0
  · have hs := scan_of he
    have hv : belowV gs size = sumM (gs.take (upto gs size)) := by rw [belowV_ok he, upto_take, sumM_upto size hs]
    have HV := Lib.hid hv; clear hv
    have hm := (fit_of gs he).take (upto gs size)
    have h6 := (errV_zero he).1
    have hu := upto_le gs size
    have hl : (gs.take (upto gs size)).length = upto gs size := by rw [List.length_take]; omega
    have HL := Lib.hid hl; clear hl
    have HE := Lib.hid he; clear he
    obtain ⟨u, hu'⟩ : ∃ u, u = upto gs size := ⟨_, rfl⟩
    rw [← hu'] at hu hm HL HV
    have HU := Lib.hid hu'; clear hu'
    clear hs
    unfold maxLen at hc2
    have hc3 : (c : Int) ≤ 9223372036854775807 := by omega
    clear hc2
    go_enter Try.func45, Try.ntmps45
    go_wp2_with fail
    refine (validate_any A n c gs _ hR hn hlen).mono ?_
    rintro e w1 ⟨rfl, hb1⟩
    rw [HE.out]
    go_wp2_with fail
    refine (upTo_any A n c gs size _ (hR.bel hb1) hn (by omega)).mono ?_
    rintro e w2 ⟨rfl, rfl⟩
    rw [← HU.out]
    have hR1 := (hR.bel hb1).take u
    have hu6 : u ≤ 6 := by omega
    rw [hn] at hu
    clear hn
    go_wp2_with fail
    refine (massOf_any A u c (gs.take u) _ hR1 HL.out (by omega) hm).mono ?_
    rintro e w2 ⟨rfl, hb2⟩
    go_wp2
    go_ret2
    exact ⟨tup_int HV.out.symm HE.out.symm, hb1.trans hb2⟩
  · have hv := belowV_err (size := size) he
    have hne : (errV gs != 0) = true := by simpa using he
    rw [hv]
    clear hv
    go_enter Try.func45, Try.ntmps45
    go_wp2_with fail
    refine (validate_any A n c gs _ hR hn hlen).mono ?_
    rintro e w1 ⟨rfl, hb1⟩
    go_wp2
    go_ret2
    exact ⟨rfl, hb1⟩
end Go.Proofs.Ytnlcndhbamcpdaa
