/- Judging: the exported functions on states. -/
import Derived.Test.YtmklpldmgmjlkaaJG
namespace Go.Proofs.Ytmklpldmgmjlkaa
open Go.RowKit

def inS (a b : Int) : Prop := 0 ≤ a ∧ a ≤ 16 ∧ 0 ≤ b ∧ b ≤ 16
instance (a b : Int) : Decidable (inS a b) := by unfold inS; infer_instance
def errS (a b : Int) : Int := if inS a b then 0 else 1
def errQ (a b q : Int) : Int := if inS a b ∧ 0 ≤ q ∧ q ≤ 12 then 0 else 1
theorem errS_ok {a b : Int} (h : inS a b) : errS a b = 0 := if_pos h
theorem errS_no {a b : Int} (h : ¬ inS a b) : errS a b = 1 := if_neg h
theorem errQ_ok {a b q : Int} (h : inS a b) (h1 : 0 ≤ q) (h2 : q ≤ 12) : errQ a b q = 0 := if_pos ⟨h, h1, h2⟩
theorem errQ_no {a b q : Int} (h : ¬ (inS a b ∧ 0 ≤ q ∧ q ≤ 12)) : errQ a b q = 1 := if_neg h
theorem inS_nat {a b : Int} (h : inS a b) : ∃ m n : Nat, a = m ∧ b = n ∧ m ≤ 16 ∧ n ≤ 16 := by
  obtain ⟨h1, h2, h3, h4⟩ := h
  exact ⟨a.toNat, b.toNat, by omega, by omega, by omega, by omega⟩
theorem inS_of {a b : Nat} (h : a ≤ 16) (h2 : b ≤ 16) : inS a b := ⟨by omega, by omega, by omega, by omega⟩

theorem valS_any (a b : Int) (w : World) :
    Calls Try.prog 27 #[.int .i64 a, .int .i64 b] w fun e w' => e = .returned (.int .i64 (errS a b)) ∧ w = w' := by
  go_enter Try.func27, Try.ntmps27
  go_wp2
  all_goals (go_ret; exact ⟨ret_int (by first | exact (errS_ok ⟨by omega, by omega, by omega, by omega⟩).symm | exact (errS_no (fun k => by obtain ⟨k1, k2, k3, k4⟩ := k; omega)).symm), rfl⟩)
theorem valQ_any (a b q : Int) (w : World) :
    Calls Try.prog 29 #[.int .i64 a, .int .i64 b, .int .i64 q] w fun e w' => e = .returned (.int .i64 (errQ a b q)) ∧ w = w' := by
  by_cases h : inS a b
  · have HE := Lib.hid (errS_ok h)
    have HI := Lib.hid h
    clear h
    go_enter Try.func29, Try.ntmps29
    go_wp2_with (go_at_call 27; refine (valS_any _ _ _).mono ?_; rintro e w1 ⟨rfl, rfl⟩; rw [HE.out])
    all_goals (go_ret; exact ⟨ret_int (by first | exact (errQ_ok HI.out (by omega) (by omega)).symm | exact (errQ_no (fun k => by obtain ⟨k1, k2, k3⟩ := k; omega)).symm), rfl⟩)
  · have HE := Lib.hid (errS_no h)
    have HI := Lib.hid h
    clear h
    go_enter Try.func29, Try.ntmps29
    go_wp2_with (go_at_call 27; refine (valS_any _ _ _).mono ?_; rintro e w1 ⟨rfl, rfl⟩; rw [HE.out])
    go_ret
    exact ⟨ret_int (errQ_no (fun k => HI.out k.1)).symm, rfl⟩
theorem wWeight_ok (a b q : Nat) (w : World) (ha : a ≤ 16) (hb : b ≤ 16) (hq : q ≤ 12) :
    Calls Try.prog 17 #[.int .i64 (a : Int), .int .i64 (b : Int), .int .i64 (q : Int)] w fun e w' => e = .returned (.tuple #[.int .i64 ((a * (q + 1) + b : Nat) : Int), .int .i64 0]) ∧ Bel w w' := by
  generalize hv : a * (q + 1) + b = v
  have HV := Lib.hid hv
  clear hv
  have HE := Lib.hid (errQ_ok (inS_of ha hb) (show (0 : Int) ≤ (q : Int) by omega) (by omega))
  go_enter Try.func17, Try.ntmps17
  go_wp2_with (go_at_call 29; refine (valQ_any _ _ _ _).mono ?_; rintro e w1 ⟨rfl, rfl⟩; rw [HE.out])
  refine (weight_any a b q _ (by omega) hq).mono ?_
  rintro e w1 ⟨rfl, hb1⟩
  rw [HV.out]
  go_wp2
  go_ret2
  exact ⟨rfl, hb1⟩
theorem wWeight_err (a b q : Int) (w : World) (h : ¬ (inS a b ∧ 0 ≤ q ∧ q ≤ 12)) :
    Calls Try.prog 17 #[.int .i64 a, .int .i64 b, .int .i64 q] w fun e w' => e = .returned (.tuple #[.int .i64 0, .int .i64 1]) ∧ Bel w w' := by
  have HE := Lib.hid (errQ_no h)
  clear h
  go_enter Try.func17, Try.ntmps17
  go_wp2_with (go_at_call 29; refine (valQ_any _ _ _ _).mono ?_; rintro e w1 ⟨rfl, rfl⟩; rw [HE.out])
  go_ret2
  exact ⟨rfl, Bel.refl _⟩
theorem wNeed_ok (a b : Nat) (w : World) (ha : a ≤ 16) (hb : b ≤ 16) :
    Calls Try.prog 16 #[.int .i64 (a : Int), .int .i64 (b : Int)] w fun e w' => e = .returned (.tuple #[.int .i64 ((nd a b : Nat) : Int), .int .i64 0]) ∧ Bel w w' := by
  generalize hv : nd a b = v
  have HV := Lib.hid hv
  clear hv
  have HE := Lib.hid (errS_ok (inS_of ha hb))
  go_enter Try.func16, Try.ntmps16
  go_wp2_with (go_at_call 27; refine (valS_any _ _ _).mono ?_; rintro e w1 ⟨rfl, rfl⟩; rw [HE.out])
  refine (need_any a b _ ha hb).mono ?_
  rintro e w1 ⟨rfl, hb1⟩
  rw [HV.out]
  go_wp2
  go_ret2
  exact ⟨rfl, hb1⟩
theorem wNeed_err (a b : Int) (w : World) (h : ¬ inS a b) :
    Calls Try.prog 16 #[.int .i64 a, .int .i64 b] w fun e w' => e = .returned (.tuple #[.int .i64 0, .int .i64 1]) ∧ Bel w w' := by
  have HE := Lib.hid (errS_no h)
  clear h
  go_enter Try.func16, Try.ntmps16
  go_wp2_with (go_at_call 27; refine (valS_any _ _ _).mono ?_; rintro e w1 ⟨rfl, rfl⟩; rw [HE.out])
  go_ret2
  exact ⟨rfl, Bel.refl _⟩
/-- The bound. -/
def bd (a b : Nat) : Nat := ((List.range 9).find? fun q => decide (a * (q + 1) + b ≤ 2 ^ q)).getD 9
theorem bd_spec {a b : Nat} (ha : a ≤ 16) (hb : b ≤ 16) : bd a b ≤ 8 ∧ a * (bd a b + 1) + b ≤ 2 ^ bd a b ∧ ∀ q, q < bd a b → ¬ a * (q + 1) + b ≤ 2 ^ q := by
  have h8 : a * (8 + 1) + b ≤ 2 ^ 8 := by
    simp only [show 2 ^ 8 = 256 from rfl]
    omega
  unfold bd
  cases h : (List.range 9).find? fun q => decide (a * (q + 1) + b ≤ 2 ^ q) with
  | none =>
    have := List.find?_eq_none.1 h 8 (by simp)
    exact absurd (by simpa using h8) this
  | some q =>
    have hq : q < 9 := by have := List.mem_of_find?_eq_some h; simpa using this
    have hs := List.find?_some h
    refine ⟨by simp; omega, by simpa using hs, fun p hp hle => ?_⟩
    simp at hp
    obtain ⟨_, xs, ys, h2, h3⟩ := List.find?_eq_some_iff_append.1 h
    have hl : xs.length = q := by
      have e1 : (List.range 9)[xs.length]? = some q := by rw [h2]; simp
      rw [List.getElem?_range (by
        have := congrArg List.length h2
        simp at this
        omega)] at e1
      exact Option.some.inj e1
    have hm : p ∈ xs := by
      have e2 : (List.range 9)[p]? = some p := List.getElem?_range (by omega)
      rw [h2, List.getElem?_append_left (by omega)] at e2
      exact List.mem_of_getElem? e2
    have := h3 p hm
    simp [hle] at this
theorem bd_le_nd {a b : Nat} (ha : a ≤ 16) (hb : b ≤ 16) : bd a b ≤ nd a b := by
  obtain ⟨n1, n2, n3⟩ := nd_spec ha hb
  obtain ⟨b1, b2, b3⟩ := bd_spec ha hb
  refine Nat.le_of_not_lt fun h => b3 _ h (en_weight n1)
theorem wBound_ok (a b : Nat) (w : World) (ha : a ≤ 16) (hb : b ≤ 16) :
    Calls Try.prog 18 #[.int .i64 (a : Int), .int .i64 (b : Int)] w fun e w' => e = .returned (.tuple #[.int .i64 ((bd a b : Nat) : Int), .int .i64 0]) ∧ Bel w w' := by
  have HE := Lib.hid (errS_ok (inS_of ha hb))
  obtain ⟨b1, b2, b3⟩ := bd_spec ha hb
  have HB2 := Lib.hid b2; have HB3 := Lib.hid b3
  clear b2 b3
  generalize bd a b = n at *
  go_enter Try.func18, Try.ntmps18
  go_wp2_with (go_at_call 27; refine (valS_any _ _ _).mono ?_; rintro e w1 ⟨rfl, rfl⟩; rw [HE.out])
  go_loopw [7] (fun i wr => ∃ k : Nat, k ≤ n ∧ i = .int .i64 k ∧ Bel w wr) (fun i _ => n - (intOf i).toNat)
  case atStart => exact ⟨0, Nat.zero_le _, rfl, Bel.refl _⟩
  case round =>
    obtain ⟨k, hk, rfl, hbr⟩ := hrel
    by_cases hlt : k < n
    · have HK := Lib.hid (HB3.out k hlt)
      have hk12 : (k : Int) ≤ 12 := by omega
      go_wp2_with fail
      refine (heavy_yes a b k _ (by omega) (by omega) (by have := HK.out; omega)).mono ?_
      rintro e w1 ⟨rfl, hb1⟩
      have hb2 := hbr.trans hb1
      go_wp2
      go_roundw
      case rel => exact ⟨k + 1, by omega, by go_num, hb2⟩
      case measure => simp [intOf]; omega
    · obtain rfl : k = n := by omega
      go_wp2_with fail
      refine (heavy_no a b k _ (by omega) (by omega) (by have := HB2.out; omega)).mono ?_
      rintro e w1 ⟨rfl, hb1⟩
      have hb2 := hbr.trans hb1
      go_wp2
      go_ret2
      exact ⟨rfl, hb2⟩
theorem wBound_err (a b : Int) (w : World) (h : ¬ inS a b) :
    Calls Try.prog 18 #[.int .i64 a, .int .i64 b] w fun e w' => e = .returned (.tuple #[.int .i64 0, .int .i64 1]) ∧ Bel w w' := by
  have HE := Lib.hid (errS_no h)
  clear h
  go_enter Try.func18, Try.ntmps18
  go_wp2_with (go_at_call 27; refine (valS_any _ _ _).mono ?_; rintro e w1 ⟨rfl, rfl⟩; rw [HE.out])
  go_ret2
  exact ⟨rfl, Bel.refl _⟩
end Go.Proofs.Ytmklpldmgmjlkaa

