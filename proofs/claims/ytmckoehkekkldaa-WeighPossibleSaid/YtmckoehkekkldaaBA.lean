/- Possible of both, of all numbers and plans. -/
import Derived.Test.YtmckoehkekkldaaAZ
namespace Go.Proofs.Ytmckoehkekkldaa
open Go.RowKit

/-- Possible's first answer. -/
def possV (P : List Wg) (n : Int) : Int := if errV n P = 0 then (possN P n.toNat : Int) else 0
set_option maxRecDepth 100000 in
set_option maxHeartbeats 1000000 in
theorem possible_err (lo : Nat) (n : Int) (A : Option Addr) (m c : Nat) (P : List Wg) (w : World) (hR : Plan lo w A P) (hm : P.length = m) (hE : errV n P ≠ 0) :
    Calls Try.prog 67 #[.int .i64 n, .slice A m c] w fun e w' => e = .returned (.tuple #[.int .i64 0, .int .i64 (errV n P)]) ∧ Bel w w' := by
  have Hm := Lib.hid hm
  have hE' : (errV n P != 0) = true := by simpa using hE
  clear hm
  generalize hv : errV n P = v at *
  have HV := Lib.hid hv
  clear hv
  go_enter Try.func67, Try.ntmps67
  go_wp2_with fail
  refine (validate_any lo n A m c P _ hR Hm.out).mono ?_
  rintro e w1 ⟨rfl, hb1⟩
  rw [HV.out]
  go_wp2
  exact bodyPost_ret (v := .tuple #[.int .i64 0, .int .i64 v]) (by simp [results, Try.results67, go_sem]) rfl ⟨rfl, hb1⟩
set_option maxRecDepth 100000 in
set_option maxHeartbeats 1000000 in
theorem rPossible_err (lo : Nat) (n : Int) (A : Option Addr) (m c : Nat) (P : List Wg) (w : World) (hR : Plan lo w A P) (hm : P.length = m) (hE : errV n P ≠ 0) :
    Calls Try.prog 66 #[.int .i64 n, .slice A m c] w fun e w' => e = .returned (.tuple #[.int .i64 0, .int .i64 (errV n P)]) ∧ Bel w w' := by
  have Hm := Lib.hid hm
  have hE' : (errV n P != 0) = true := by simpa using hE
  clear hm
  generalize hv : errV n P = v at *
  have HV := Lib.hid hv
  clear hv
  go_enter Try.func66, Try.ntmps66
  go_wp2_with fail
  refine (rValidate_any lo n A m c P _ hR Hm.out).mono ?_
  rintro e w1 ⟨rfl, hb1⟩
  rw [HV.out]
  go_wp2
  exact bodyPost_ret (v := .tuple #[.int .i64 0, .int .i64 v]) (by simp [results, Try.results66, go_sem]) rfl ⟨rfl, hb1⟩
theorem possible_any (lo : Nat) (n : Int) (A : Option Addr) (m c : Nat) (P : List Wg) (w : World) (hR : Plan lo w A P) (hm : P.length = m) :
    Calls Try.prog 67 #[.int .i64 n, .slice A m c] w fun e w' => e = .returned (.tuple #[.int .i64 (possV P n), .int .i64 (errV n P)]) ∧ Bel w w' := by
  by_cases h : errV n P = 0
  · obtain ⟨k, rfl, hG⟩ := errV_good h
    refine (possible_ok lo k A m c P w hR hm hG).mono ?_
    rintro e w' ⟨rfl, hb⟩
    exact ⟨by unfold possV; rw [if_pos h, h]; rfl, hb⟩
  · refine (possible_err lo n A m c P w hR hm h).mono ?_
    rintro e w' ⟨rfl, hb⟩
    exact ⟨by unfold possV; rw [if_neg h], hb⟩
theorem rPossible_any (lo : Nat) (n : Int) (A : Option Addr) (m c : Nat) (P : List Wg) (w : World) (hR : Plan lo w A P) (hm : P.length = m) :
    Calls Try.prog 66 #[.int .i64 n, .slice A m c] w fun e w' => e = .returned (.tuple #[.int .i64 (possV P n), .int .i64 (errV n P)]) ∧ Bel w w' := by
  by_cases h : errV n P = 0
  · obtain ⟨k, rfl, hG⟩ := errV_good h
    refine (rPossible_ok lo k A m c P w hR hm hG).mono ?_
    rintro e w' ⟨rfl, hb⟩
    exact ⟨by unfold possV; rw [if_pos h, h]; rfl, hb⟩
  · refine (rPossible_err lo n A m c P w hR hm h).mono ?_
    rintro e w' ⟨rfl, hb⟩
    exact ⟨by unfold possV; rw [if_neg h], hb⟩
end Go.Proofs.Ytmckoehkekkldaa
