/- Judging: the document's Need and Bound. -/
import Derived.Test.YtogeackcnmeooaaJM
namespace Go.Proofs.Ytogeackcnmeooaa
open Go.RowKit

set_option maxRecDepth 100000 in
set_option maxHeartbeats 1000000 in
theorem rneed_any (a b : Nat) (w : World) (ha : a ≤ 16) (hb : b ≤ 16) :
    Calls Try.prog 69 #[.int .i64 (a : Int), .int .i64 (b : Int)] w fun e w' => e = .returned (.int .i64 ((nd a b : Nat) : Int)) ∧ Bel w w' := by
  obtain ⟨n1, n2, n3⟩ := nd_spec ha hb
  have HL := Lib.hid (fun q => nd_le (q := q) ha hb)
  clear n3 n1
  generalize hn : nd a b = n at *
  clear hn
  obtain ⟨m, hm⟩ : ∃ m, m = a + b := ⟨_, rfl⟩
  have hni : (a : Int) + (b : Int) = (m : Int) := by omega
  have HN := Lib.hid hni
  have hm32 : m ≤ 32 := by omega
  have hai : (a : Int) ≤ 16 := by omega
  have hbi : (b : Int) ≤ 16 := by omega
  clear hni
  go_enter Try.func69, Try.ntmps69
  go_wp2
  go_loopw [5] (fun i wr => ∃ k : Nat, k ≤ n ∧ i = .int .i64 k ∧ Bel w wr) (fun i _ => n - (intOf i).toNat)
  case atStart => exact ⟨0, Nat.zero_le _, rfl, Bel.refl _⟩
  case round =>
    obtain ⟨k, hk, rfl, hbr⟩ := hrel
    have hk12 : (k : Int) < 12 := by omega
    obtain ⟨F, hF⟩ : ∃ F, F = tF m k := ⟨_, rfl⟩
    have hat : F a b = en k a b := by rw [hF, hm]; exact tF_in (Nat.le_refl _)
    have h1 := run_index_tab F a (by omega)
    have h2 := run_index_row F a b (by omega)
    obtain ⟨X, hX⟩ : ∃ X, X = (tabL F).toArray := ⟨_, rfl⟩
    obtain ⟨Y, hY⟩ : ∃ Y, Y = (rowL F a).toArray := ⟨_, rfl⟩
    rw [← hX, ← hY] at h1
    rw [← hY, hat] at h2
    have HX := Lib.hid hX; have HF := Lib.hid hF
    clear hX hY hat hF
    by_cases hlt : k < n
    · have he : en k a b = false := by
        cases he : en k a b
        · rfl
        · have := (HL.out k).1 he; omega
      rw [he] at h2
      clear he
      have HM := Lib.hid hm
      clear hm
      go_wp2_with fail
      rw [HN.out]
      refine (table_any m k _ hm32 (by omega)).mono ?_
      rintro e w1 ⟨rfl, hb1⟩
      have hb2 := hbr.trans hb1
      rw [← HF.out, ← HX.out]
      go_wp2
      go_roundw
      case rel => exact ⟨k + 1, by omega, by go_num, hb2⟩
      case measure => simp [intOf]; omega
    · obtain rfl : k = n := by omega
      have he : en k a b = true := (HL.out k).2 (Nat.le_refl _)
      rw [he] at h2
      clear he
      have HM := Lib.hid hm
      clear hm
      go_wp2_with fail
      rw [HN.out]
      refine (table_any m k _ hm32 (by omega)).mono ?_
      rintro e w1 ⟨rfl, hb1⟩
      have hb2 := hbr.trans hb1
      rw [← HF.out, ← HX.out]
      go_wp2
      go_ret
      exact ⟨rfl, hb2⟩
theorem rNeed_any (a b : Int) (w : World) : Calls Try.prog 34 #[.int .i64 a, .int .i64 b] w fun e w' => e = .returned (.tuple #[.int .i64 (needV a b), .int .i64 (errS a b)]) ∧ Bel w w' := by
  by_cases h : inS a b
  · have HE := Lib.hid ((errS_eq a b).trans (errS_ok h))
    rw [errS_ok h]
    obtain ⟨a, b, rfl, rfl, ha, hb⟩ := inS_nat h
    have e1 : needV a b = ((nd a b : Nat) : Int) := by unfold needV; rw [if_pos h]; rfl
    rw [e1]
    clear e1 h
    generalize hv : nd a b = v
    have HV := Lib.hid hv
    clear hv
    go_enter Try.func34, Try.ntmps34
    go_wp2_with (go_at_call 60; refine (asked_any _ _ _ _).mono ?_; rintro e w1 ⟨rfl, rfl⟩; rw [HE.out])
    refine (rneed_any a b _ ha hb).mono ?_
    rintro e w1 ⟨rfl, hb1⟩
    rw [HV.out]
    go_wp2
    go_ret2
    exact ⟨rfl, hb1⟩
  · have HE := Lib.hid ((errS_eq a b).trans (errS_no h))
    have e1 : needV a b = 0 := by unfold needV; rw [if_neg h]
    rw [e1, errS_no h]
    clear h e1
    go_enter Try.func34, Try.ntmps34
    go_wp2_with (go_at_call 60; refine (asked_any _ _ _ _).mono ?_; rintro e w1 ⟨rfl, rfl⟩; rw [HE.out])
    go_ret2
    exact ⟨rfl, Bel.refl _⟩
/-- What Bound answers. -/
def boundV (a b : Int) : Int := if inS a b then ((bd a.toNat b.toNat : Nat) : Int) else 0
theorem wBound_any (a b : Int) (w : World) : Calls Try.prog 37 #[.int .i64 a, .int .i64 b] w fun e w' => e = .returned (.tuple #[.int .i64 (boundV a b), .int .i64 (errS a b)]) ∧ Bel w w' := by
  by_cases h : inS a b
  · obtain ⟨a, b, rfl, rfl, ha, hb⟩ := inS_nat h
    have e1 : boundV a b = ((bd a b : Nat) : Int) := by unfold boundV; rw [if_pos h]; rfl
    rw [e1, errS_ok h]
    exact wBound_ok a b w ha hb
  · have e1 : boundV a b = 0 := by unfold boundV; rw [if_neg h]
    rw [e1, errS_no h]
    exact wBound_err a b w h
theorem rBound_any (a b : Int) (w : World) : Calls Try.prog 35 #[.int .i64 a, .int .i64 b] w fun e w' => e = .returned (.tuple #[.int .i64 (boundV a b), .int .i64 (errS a b)]) ∧ Bel w w' := by
  by_cases h : inS a b
  · have HE := Lib.hid ((errS_eq a b).trans (errS_ok h))
    rw [errS_ok h]
    obtain ⟨a, b, rfl, rfl, ha, hb⟩ := inS_nat h
    have e1 : boundV a b = ((bd a b : Nat) : Int) := by unfold boundV; rw [if_pos h]; rfl
    rw [e1]
    clear e1 h
    obtain ⟨b1, b2, b3⟩ := bd_spec ha hb
    have HB2 := Lib.hid b2; have HB3 := Lib.hid b3
    clear b2 b3
    generalize bd a b = n at *
    have hai : (a : Int) ≤ 16 := by omega
    have hbi : (b : Int) ≤ 16 := by omega
    go_enter Try.func35, Try.ntmps35
    go_wp2_with (go_at_call 60; refine (asked_any _ _ _ _).mono ?_; rintro e w1 ⟨rfl, rfl⟩; rw [HE.out])
    go_loop [7, 8] (fun i p => ∃ (k : Nat) (r : Int), k ≤ n ∧ i = .int .i64 k ∧ p = .int .i64 r ∧ r = ((2 ^ k : Nat) : Int)) (fun i _ => n - (intOf i).toNat)
    case atStart => exact ⟨0, 1, Nat.zero_le _, rfl, rfl, by simp⟩
    case round =>
      obtain ⟨k, r, hk, rfl, rfl, hr⟩ := hrel
      obtain ⟨p1, p2⟩ := pow_bd k (by omega)
      rw [← hr] at p1 p2
      have HR := Lib.hid hr
      clear hr
      have m1 : 0 ≤ (a : Int) * ((k : Int) + 1) := Int.mul_nonneg (by omega) (by omega)
      have m2 : (a : Int) * ((k : Int) + 1) ≤ 16 * 13 := Int.mul_le_mul (by omega) (by omega) (by omega) (by omega)
      have hcast : ((a * (k + 1) + b : Nat) : Int) = (a : Int) * ((k : Int) + 1) + (b : Int) := by simp
      by_cases hlt : k < n
      · have hgt : r < (a : Int) * ((k : Int) + 1) + (b : Int) := by
          have := HB3.out k hlt
          rw [← hcast, HR.out]
          omega
        have HP : Hid (2 * r = ((2 ^ (k + 1) : Nat) : Int)) := by
          show _ = _
          rw [HR.out, Nat.pow_succ]
          omega
        clear hcast
        go_wp2
        go_round
        case rel => exact ⟨k + 1, 2 * r, by omega, by go_num, rfl, HP.out⟩
        case measure => simp [intOf]; omega
      · obtain rfl : k = n := by omega
        have hle : (a : Int) * ((k : Int) + 1) + (b : Int) ≤ r := by
          have := HB2.out
          rw [← hcast, HR.out]
          omega
        clear hcast
        go_wp2
        go_ret2
        exact ⟨rfl, Bel.refl _⟩
  · have HE := Lib.hid ((errS_eq a b).trans (errS_no h))
    have e1 : boundV a b = 0 := by unfold boundV; rw [if_neg h]
    rw [e1, errS_no h]
    clear h e1
    go_enter Try.func35, Try.ntmps35
    go_wp2_with (go_at_call 60; refine (asked_any _ _ _ _).mono ?_; rintro e w1 ⟨rfl, rfl⟩; rw [HE.out])
    go_ret2
    exact ⟨rfl, Bel.refl _⟩
end Go.Proofs.Ytogeackcnmeooaa
