/- Least, by the document and by the program. -/
import Derived.Test.YtmckoehkekkldaaUE
namespace Go.Proofs.Ytmckoehkekkldaa
open Go.RowKit

/-- Can so many lots be told, in short. -/
def canF (a : Nat) (k : Nat) : Bool := decide (3 ≤ a) && decide ((a : Int) ≤ mostN k)
/-- The fewest weighings, and the error. -/
def leastV (a : Int) : Int := if a = 3 then 2 else if 4 ≤ a ∧ a ≤ 12 then 3 else 0
def errL (a : Int) : Int := if 1 ≤ a ∧ a ≤ 13 then (if 3 ≤ a ∧ a ≤ 12 then 0 else 4) else 1
theorem least_at : ∀ a, a < 14 → ∀ k, k < 4 → canF a k = true → (∀ j, j < k → canF a j = false) → leastV (a : Int) = (k : Int) ∧ errL (a : Int) = 0 := by decide +kernel
theorem least_none : ∀ a, a < 14 → 0 < a → (∀ j, j < 4 → canF a j = false) → leastV (a : Int) = 0 ∧ errL (a : Int) = 4 := by decide +kernel
theorem errN_can {a k : Nat} (h1 : 1 ≤ a) (h13 : a ≤ 13) (hk : k ≤ 3) : errN (a : Int) (k : Int) = 0 := by
  unfold errN
  rw [if_pos ⟨by omega, by omega⟩]
theorem errL_bad {a : Int} (h : ¬ (1 ≤ a ∧ a ≤ 13)) : leastV a = 0 ∧ errL a = 1 := by
  unfold leastV errL
  rw [if_neg (by omega), if_neg (by omega), if_neg h]
  exact ⟨rfl, rfl⟩
set_option maxRecDepth 100000 in
set_option maxHeartbeats 1000000 in
theorem rLeast_any (a : Int) (w : World) : Calls Try.prog 35 #[.int .i64 a] w fun e w' => e = .returned (.tuple #[.int .i64 (leastV a), .int .i64 (errL a)]) ∧ Bel w w' := by
  by_cases h : 1 ≤ a ∧ a ≤ 13
  · obtain ⟨a', rfl⟩ := Int.eq_ofNat_of_zero_le (by omega : 0 ≤ a)
    have h1 : 1 ≤ a' := by omega
    have h13 : a' ≤ 13 := by omega
    have HA := Lib.hid (fun k hk => least_at a' (by omega) k hk)
    have HB := Lib.hid (least_none a' (by omega) (by omega))
    have HE := Lib.hid (errN_can (k := 0) h1 h13 (by omega))
    clear h
    go_enter Try.func35, Try.ntmps35
    go_wp2_with fail
    refine (numbered_any _ 0 _).mono ?_
    rintro e w1 ⟨rfl, rfl⟩
    rw [show errN (a' : Int) 0 = 0 from HE.out]
    go_wp2
    go_loopw [5] (fun i wr => ∃ k : Nat, k ≤ 4 ∧ i = .int .i64 k ∧ Bel w wr ∧ ∀ j, j < k → canF a' j = false) (fun i _ => 4 - (intOf i).toNat)
    case atStart => exact ⟨0, by omega, rfl, Bel.refl _, fun j hj => by omega⟩
    case round =>
      obtain ⟨k, hk, rfl, hb, hno⟩ := hrel
      have HNO := Lib.hid hno
      clear hno
      by_cases hk4 : k < 4
      · have hki : (k : Int) ≤ 3 := by omega
        cases hc : canF a' k
        · have HNX : Hid (∀ j, j < k + 1 → canF a' j = false) := fun j hj => by
            rcases (by omega : j < k ∨ j = k) with h | rfl
            · exact HNO.out j h
            · exact hc
          have HC := Lib.hid hc
          clear hc
          go_wp2_with fail
          refine (can_any a' k _ (by omega) h1 h13).mono ?_
          rintro e w2 ⟨rfl, hb2⟩
          rw [show (decide (3 ≤ a') && decide ((a' : Int) ≤ mostN k)) = false from HC.out]
          go_wp2
          go_roundw
          case rel => exact ⟨k + 1, by omega, by go_num, by (repeat (first | exact Bel.refl _ | assumption | refine Bel.drew ?_ | refine Bel.drewN ?_ _ | refine Bel.alloc ?_ _ | refine Bel.setCell ?_ (by first | omega | (simp; done) | (simp; omega) | (simp at *; omega)) _ | refine Bel.trans ?_ (by assumption))), HNX.out⟩
          case measure => simp [intOf]; omega
        · have HV := Lib.hid (HA.out k hk4 hc HNO.out)
          have HC := Lib.hid hc
          clear hc
          go_wp2_with fail
          refine (can_any a' k _ (by omega) h1 h13).mono ?_
          rintro e w2 ⟨rfl, hb2⟩
          rw [show (decide (3 ≤ a') && decide ((a' : Int) ≤ mostN k)) = true from HC.out]
          go_wp2
          exact bodyPost_ret (v := .tuple #[.int .i64 (k : Int), .int .i64 0]) (by simp [results, Try.results35, go_sem]) rfl ⟨by rw [HV.out.1, HV.out.2], hb.trans hb2⟩
      · obtain rfl : k = 4 := by omega
        have HV := Lib.hid (HB.out HNO.out)
        go_wp2
        exact bodyPost_ret (v := .tuple #[.int .i64 0, .int .i64 4]) (by simp [results, Try.results35, go_sem]) rfl ⟨by rw [HV.out.1, HV.out.2], hb⟩
  · have HV := Lib.hid (errL_bad h)
    have HE : Hid (errN a 0 = 1) := by show _ = _; unfold errN; rw [if_neg (fun h' => h h'.1)]
    clear h
    go_enter Try.func35, Try.ntmps35
    go_wp2_with fail
    refine (numbered_any _ 0 _).mono ?_
    rintro e w1 ⟨rfl, rfl⟩
    rw [HE.out]
    go_wp2
    exact bodyPost_ret (v := .tuple #[.int .i64 0, .int .i64 1]) (by simp [results, Try.results35, go_sem]) rfl ⟨by rw [HV.out.1, HV.out.2], Bel.refl _⟩
set_option maxRecDepth 100000 in
set_option maxHeartbeats 1000000 in
theorem least_any (a : Int) (w : World) : Calls Try.prog 36 #[.int .i64 a] w fun e w' => e = .returned (.tuple #[.int .i64 (leastV a), .int .i64 (errL a)]) ∧ w = w' := by
  by_cases h : 1 ≤ a ∧ a ≤ 13
  · have hd : decide (1 ≤ a ∧ a ≤ 13) = true := by simpa using h
    obtain ⟨a', rfl⟩ := Int.eq_ofNat_of_zero_le (by omega : 0 ≤ a)
    have h1 : 1 ≤ a' := by omega
    have h13 : a' ≤ 13 := by omega
    have HA := Lib.hid (fun k hk => least_at a' (by omega) k hk)
    have HB := Lib.hid (least_none a' (by omega) (by omega))
    have HEN := Lib.hid (fun k hk => @errN_can a' k h1 h13 hk)
    clear h
    go_enter Try.func36, Try.ntmps36
    go_wp2_with (go_at_call 64; refine (areLots_any _ _).mono ?_; rintro e w1 ⟨rfl, rfl⟩; rw [hd])
    go_loop [4, 5, 6, 10] (fun _ _ _ i => ∃ k : Nat, k ≤ 4 ∧ i = .int .i64 k ∧ ∀ j, j < k → canF a' j = false) (fun _ _ _ i => 4 - (intOf i).toNat)
    case atStart => exact ⟨0, by omega, rfl, fun j hj => by omega⟩
    case round =>
      obtain ⟨k, hk, rfl, hno⟩ := hrel
      have HNO := Lib.hid hno
      clear hno
      by_cases hk4 : k < 4
      · have hki : (k : Int) < 4 := by omega
        have HE0 := Lib.hid (HEN.out k (by omega))
        have HCV := Lib.hid (canV_nat HE0.out)
        cases hc : canF a' k
        · have HNX : Hid (∀ j, j < k + 1 → canF a' j = false) := fun j hj => by
            rcases (by omega : j < k ∨ j = k) with h | rfl
            · exact HNO.out j h
            · exact hc
          have HC := Lib.hid (show canV (a' : Int) (k : Int) = false by rw [HCV.out]; exact hc)
          clear hc
          go_wp2_with fail
          refine (canTell_any _ _ _).mono ?_
          rintro e w2 ⟨rfl, rfl⟩
          rw [HC.out, HE0.out]
          go_wp2
          go_round
          case rel => exact ⟨k + 1, by omega, by go_num, HNX.out⟩
          case measure => simp [intOf]; omega
        · have HV := Lib.hid (HA.out k hk4 hc HNO.out)
          have HC := Lib.hid (show canV (a' : Int) (k : Int) = true by rw [HCV.out]; exact hc)
          clear hc
          go_wp2_with fail
          refine (canTell_any _ _ _).mono ?_
          rintro e w2 ⟨rfl, rfl⟩
          rw [HC.out, HE0.out]
          go_wp2
          exact bodyPost_ret (v := .tuple #[.int .i64 (k : Int), .int .i64 0]) (by simp [results, Try.results36, go_sem]) rfl ⟨by rw [HV.out.1, HV.out.2], rfl⟩
      · obtain rfl : k = 4 := by omega
        have HV := Lib.hid (HB.out HNO.out)
        go_wp2
        exact bodyPost_ret (v := .tuple #[.int .i64 0, .int .i64 4]) (by simp [results, Try.results36, go_sem]) rfl ⟨by rw [HV.out.1, HV.out.2], rfl⟩
  · have hd : decide (1 ≤ a ∧ a ≤ 13) = false := by simpa using h
    have HV := Lib.hid (errL_bad h)
    clear h
    go_enter Try.func36, Try.ntmps36
    go_wp2_with (go_at_call 64; refine (areLots_any _ _).mono ?_; rintro e w1 ⟨rfl, rfl⟩; rw [hd])
    exact bodyPost_ret (v := .tuple #[.int .i64 0, .int .i64 1]) (by simp [results, Try.results36, go_sem]) rfl ⟨by rw [HV.out.1, HV.out.2], rfl⟩
end Go.Proofs.Ytmckoehkekkldaa
