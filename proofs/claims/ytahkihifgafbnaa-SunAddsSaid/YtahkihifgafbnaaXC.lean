/- Wins and Rings of both, where the table is none. -/
import Derived.Test.YtahkihifgafbnaaJ
import Derived.Test.YtahkihifgafbnaaK
import Derived.Test.YtahkihifgafbnaaV
import Derived.Test.YtahkihifgafbnaaW
namespace Go.Proofs.Ytahkihifgafbnaa
open Go.RowKit

set_option maxRecDepth 100000 in
set_option maxHeartbeats 2000000 in
theorem wins_err (lo : Nat) (A : Option Addr) (n c : Nat) (T : List (List Int)) (w : World) (hR : Tab lo w A T) (hn : T.length = n) (hE : errT T ≠ 0) :
    Calls Try.prog 39 #[.slice A n c] w fun e w' => e = .returned (.tuple #[.slice none 0 0, .int .i64 (errT T)]) ∧ Bel w w' := by
  have Hn := Lib.hid hn
  have hE' : (errT T != 0) = true := by simpa using hE
  clear hn
  generalize hv : errT T = v at *
  have HV := Lib.hid hv
  clear hv
  refine (callsIn_wide (n := 5)).1 ?_
  refine callsIn_of_wp_marks Try.func39 rfl trivial ?_ rfl
  simp only [Try.ntmps39, List.size_toArray, List.length_cons, List.length_nil, Nat.reduceAdd, Nat.reduceSub, Array.replicate_succ, Array.replicate_zero, List.push_toArray, List.append_toArray, List.nil_append, List.cons_append]
  gi_wp2_with (first | (refine ⟨trivial, ?_⟩; gi_at_call 41; refine (callsIn_wide.2 (validate_any lo A n c T _ hR Hn.out)).mono ?_; rintro e w1 ⟨rfl, hb1⟩; rw [HV.out]) | fail)
  refine ⟨.tuple #[.slice none 0 0, .int .i64 v], by simp [results, Try.f39, go_sem], rfl, hb1⟩
set_option maxRecDepth 100000 in
set_option maxHeartbeats 2000000 in
theorem rings_err (lo : Nat) (A : Option Addr) (n c : Nat) (T : List (List Int)) (w : World) (hR : Tab lo w A T) (hn : T.length = n) (hE : errT T ≠ 0) :
    Calls Try.prog 40 #[.slice A n c] w fun e w' => e = .returned (.tuple #[.int .i64 0, .int .i64 (errT T)]) ∧ Bel w w' := by
  have Hn := Lib.hid hn
  have hE' : (errT T != 0) = true := by simpa using hE
  clear hn
  generalize hv : errT T = v at *
  have HV := Lib.hid hv
  clear hv
  refine (callsIn_wide (n := 9)).1 ?_
  refine callsIn_of_wp_marks Try.func40 rfl trivial ?_ rfl
  simp only [Try.ntmps40, List.size_toArray, List.length_cons, List.length_nil, Nat.reduceAdd, Nat.reduceSub, Array.replicate_succ, Array.replicate_zero, List.push_toArray, List.append_toArray, List.nil_append, List.cons_append]
  gi_wp2_with (first | (refine ⟨trivial, ?_⟩; gi_at_call 41; refine (callsIn_wide.2 (validate_any lo A n c T _ hR Hn.out)).mono ?_; rintro e w1 ⟨rfl, hb1⟩; rw [HV.out]) | fail)
  refine ⟨.tuple #[.int .i64 0, .int .i64 v], by simp [results, Try.f40, go_sem], rfl, hb1⟩
set_option maxRecDepth 100000 in
set_option maxHeartbeats 2000000 in
theorem rwins_err (lo : Nat) (A : Option Addr) (n c : Nat) (T : List (List Int)) (w : World) (hR : Tab lo w A T) (hn : T.length = n) (hE : errT T ≠ 0) :
    Calls Try.prog 37 #[.slice A n c] w fun e w' => e = .returned (.tuple #[.slice none 0 0, .int .i64 (errT T)]) ∧ Bel w w' := by
  have Hn := Lib.hid hn
  have hE' : (errT T != 0) = true := by simpa using hE
  clear hn
  generalize hv : errT T = v at *
  have HV := Lib.hid hv
  clear hv
  go_enter Try.func37, Try.ntmps37
  go_wp2_with fail
  refine (rvalidate_any lo A n c T _ hR Hn.out).mono ?_
  rintro e w1 ⟨rfl, hb1⟩
  rw [HV.out]
  go_wp2
  go_ret2
  exact ⟨rfl, hb1⟩
set_option maxRecDepth 100000 in
set_option maxHeartbeats 2000000 in
theorem rrings_err (lo : Nat) (A : Option Addr) (n c : Nat) (T : List (List Int)) (w : World) (hR : Tab lo w A T) (hn : T.length = n) (hE : errT T ≠ 0) :
    Calls Try.prog 38 #[.slice A n c] w fun e w' => e = .returned (.tuple #[.int .i64 0, .int .i64 (errT T)]) ∧ Bel w w' := by
  have Hn := Lib.hid hn
  have hE' : (errT T != 0) = true := by simpa using hE
  clear hn
  generalize hv : errT T = v at *
  have HV := Lib.hid hv
  clear hv
  go_enter Try.func38, Try.ntmps38
  go_wp2_with fail
  refine (rvalidate_any lo A n c T _ hR Hn.out).mono ?_
  rintro e w1 ⟨rfl, hb1⟩
  rw [HV.out]
  go_wp2
  go_ret2
  exact ⟨rfl, hb1⟩
end Go.Proofs.Ytahkihifgafbnaa
