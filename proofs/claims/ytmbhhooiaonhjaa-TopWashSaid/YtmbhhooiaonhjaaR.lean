/- Mass and Below. -/
import Derived.Test.YtmbhhooiaonhjaaQ
namespace Go.Proofs.Ytmbhhooiaonhjaa
open Go.RowKit

def belowV (gs : List (Int × Int)) (size : Int) : Int := if errV gs = 0 then sumB gs size else 0
theorem belowV_err {gs : List (Int × Int)} {size : Int} (h : ¬ errV gs = 0) : belowV gs size = 0 := by unfold belowV; rw [if_neg h]
theorem belowV_ok {gs : List (Int × Int)} {size : Int} (h : errV gs = 0) : belowV gs size = sumB gs size := by unfold belowV; rw [if_pos h]
theorem tup_int {a b c d : Int} (h : a = b) (h' : c = d) : Ending.returned (.tuple #[.int .i64 a, .int .i64 c]) = .returned (.tuple #[.int .i64 b, .int .i64 d]) := by rw [h, h']

set_option maxHeartbeats 400000 in
theorem long_any (A : Option Addr) (n c : Nat) (w : World) : Calls Try.prog 15 #[.slice A n c] w fun e w' => e = .returned (.bool (decide (40 < n))) ∧ w = w' := by
  go_enter Try.func15, Try.ntmps15
  go_wp2
  go_ret
  exact ⟨by simp; omega, rfl⟩

set_option maxHeartbeats 400000 in
theorem wMass_any (A : Option Addr) (n c : Nat) (gs : List (Int × Int)) (w : World) (hR : Prs w A gs) (hn : gs.length = n) (hlen : n ≤ maxLen) :
    Calls Try.prog 26 #[.slice A n c] w fun e w' => e = .returned (.tuple #[.int .i64 (belowV gs 20), .int .i64 (errV gs)]) ∧ Bel w w' := by
  by_cases he : errV gs = 0
  · have hv : belowV gs 20 = sumM gs := by rw [belowV_ok he, sumB_all (fit_of gs he)]
    have HV := Lib.hid hv; clear hv
    have hm := fit_of gs he
    have h6 := (errV_zero he).1
    have HE := Lib.hid he; clear he
    go_enter Try.func26, Try.ntmps26
    go_wp2_with fail
    refine (validate_any A n c gs _ hR hn hlen).mono ?_
    rintro e w1 ⟨rfl, hb1⟩
    rw [HE.out]
    go_wp2_with fail
    refine (massOf_any A n c gs _ (hR.bel hb1) hn (by omega) hm).mono ?_
    rintro e w2 ⟨rfl, hb2⟩
    go_wp2
    go_ret2
    exact ⟨tup_int HV.out.symm HE.out.symm, hb1.trans hb2⟩
  · have hv := belowV_err (size := 20) he
    have hne : (errV gs != 0) = true := by simpa using he
    rw [hv]
    clear hv
    go_enter Try.func26, Try.ntmps26
    go_wp2_with fail
    refine (validate_any A n c gs _ hR hn hlen).mono ?_
    rintro e w1 ⟨rfl, hb1⟩
    go_wp2
    go_ret2
    exact ⟨rfl, hb1⟩

end Go.Proofs.Ytmbhhooiaonhjaa

