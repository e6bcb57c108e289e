/- Validate of the program. -/
import Derived.Test.YtmckoehkekkldaaI
namespace Go.Proofs.Ytmckoehkekkldaa
open Go.RowKit

theorem areLots_any (n : Int) (w : World) : Calls Try.prog 64 #[.int .i64 n] w fun e w' => e = .returned (.bool (decide (1 ≤ n ∧ n ≤ 13))) ∧ w = w' := by
  by_cases h1 : 1 ≤ n
  · by_cases h7 : n ≤ 13
    · go_enter Try.func64, Try.ntmps64
      go_wp2
      go_ret
      exact ⟨by simp [h1, h7], rfl⟩
    · go_enter Try.func64, Try.ntmps64
      go_wp2
      go_ret
      exact ⟨by simp [h7], rfl⟩
  · go_enter Try.func64, Try.ntmps64
    go_wp2
    go_ret
    exact ⟨by simp; omega, rfl⟩
theorem areWeighings_any (n : Int) (w : World) : Calls Try.prog 62 #[.int .i64 n] w fun e w' => e = .returned (.bool (decide (0 ≤ n ∧ n ≤ 3))) ∧ w = w' := by
  by_cases h1 : 0 ≤ n
  · by_cases h7 : n ≤ 3
    · go_enter Try.func62, Try.ntmps62
      go_wp2
      go_ret
      exact ⟨by simp [h1, h7], rfl⟩
    · go_enter Try.func62, Try.ntmps62
      go_wp2
      go_ret
      exact ⟨by simp [h7], rfl⟩
  · go_enter Try.func62, Try.ntmps62
    go_wp2
    go_ret
    exact ⟨by simp; omega, rfl⟩

set_option maxRecDepth 100000 in
set_option maxHeartbeats 4000000 in
theorem validate_any (lo : Nat) (n : Int) (A : Option Addr) (m c : Nat) (P : List Wg) (w : World) (hR : Plan lo w A P) (hm : P.length = m) :
    Calls Try.prog 43 #[.int .i64 n, .slice A m c] w fun e w' => e = .returned (.int .i64 (errV n P)) ∧ Bel w w' := by
  have Hm := Lib.hid hm
  clear hm
  have HE : Hid (errV n P = if 1 ≤ n ∧ n ≤ 13 then (if P.length ≤ 3 then errPs n P else 3) else 1) := rfl
  by_cases h1 : 1 ≤ n ∧ n ≤ 13
  · have hd : decide (1 ≤ n ∧ n ≤ 13) = true := by simpa using h1
    rw [if_pos h1, Hm.out] at HE
    clear h1
    by_cases h3 : m ≤ 3
    · have hd3 : decide ((0 : Int) ≤ (m : Int) ∧ (m : Int) ≤ 3) = true := by simp; omega
      have hm3 : (m : Int) ≤ 3 := by omega
      rw [if_pos h3] at HE
      go_enter Try.func43, Try.ntmps43
      go_wp2_with (first | (go_at_call 64; refine (areLots_any n _).mono ?_; rintro e w1 ⟨rfl, rfl⟩; rw [hd]) | (go_at_call 62; refine (areWeighings_any _ _).mono ?_; rintro e w1 ⟨rfl, rfl⟩; rw [hd3]))
      go_loopw [6, 7, 17] (fun _ _ i wr => ∃ k : Nat, k ≤ m ∧ i = .int .i64 k ∧ errPs n (P.take k) = 0 ∧ Bel w wr) (fun _ _ i _ => m - (intOf i).toNat)
      case atStart => exact ⟨0, Nat.zero_le _, rfl, rfl, Bel.refl _⟩
      case round =>
        obtain ⟨k, hk, rfl, hall, hb⟩ := hrel
        have HA := Lib.hid hall
        clear hall
        by_cases hlt : k < m
        · obtain ⟨b, o, l, r, A1, n1, c1, A2, n2, c2, rfl, hbl, hg, q1, q2, hI, hl1, hx1, hJ, hl2, hx2⟩ := (hR.bel hb).at_ (k := k) (by rw [Hm.out]; exact hlt)
          have HG := Lib.hid hg; have HL1 := Lib.hid hl1; have HL2 := Lib.hid hl2
          have hki : (k : Int) < (m : Int) := by omega
          clear hg hl1 hl2
          go_wp2_with fail
          refine (validateWeighing_any n A1 n1 c1 l A2 n2 c2 r _ ?_ HL1.out hx1 ?_ HL2.out hx2).mono ?_
          · exact hI.bel (by (repeat (first | exact Bel.refl _ | assumption | refine Bel.drew ?_ | refine Bel.drewN ?_ _ | refine Bel.alloc ?_ _ | refine Bel.setCell ?_ (by first | omega | (simp; done) | (simp; omega) | (simp at *; omega)) _ | refine Bel.trans ?_ (by assumption))))
          · exact hJ.bel (by (repeat (first | exact Bel.refl _ | assumption | refine Bel.drew ?_ | refine Bel.drewN ?_ _ | refine Bel.alloc ?_ _ | refine Bel.setCell ?_ (by first | omega | (simp; done) | (simp; omega) | (simp at *; omega)) _ | refine Bel.trans ?_ (by assumption))))
          rintro e w1 ⟨rfl, hb1⟩
          by_cases hz : errW n (l, r) = 0
          · have HS := Lib.hid (errPs_next HA.out HG.out hz)
            rw [hz]
            clear hz
            go_wp2
            go_roundw
            case rel => exact ⟨k + 1, by omega, by go_num, HS.out, by (repeat (first | exact Bel.refl _ | assumption | refine Bel.drew ?_ | refine Bel.drewN ?_ _ | refine Bel.alloc ?_ _ | refine Bel.setCell ?_ (by first | omega | (simp; done) | (simp; omega) | (simp at *; omega)) _ | refine Bel.trans ?_ (by assumption)))⟩
            case measure => simp [intOf]; omega
          · have HS := Lib.hid (errPs_stop HA.out HG.out hz)
            rw [HS.out] at HE
            have hz' : (errW n (l, r) != 0) = true := by simpa using hz
            clear hz
            go_wp2
            go_ret
            exact ⟨ret_int HE.out.symm, by (repeat (first | exact Bel.refl _ | assumption | refine Bel.drew ?_ | refine Bel.drewN ?_ _ | refine Bel.alloc ?_ _ | refine Bel.setCell ?_ (by first | omega | (simp; done) | (simp; omega) | (simp at *; omega)) _ | refine Bel.trans ?_ (by assumption)))⟩
        · obtain rfl : m = k := by omega
          have HX : Hid (errPs n P = 0) := by
            have := HA.out
            rw [List.take_of_length_le (by rw [Hm.out]; omega)] at this
            exact this
          rw [HX.out] at HE
          go_wp2
          go_ret
          exact ⟨ret_int HE.out.symm, hb⟩
    · have hd3 : decide ((0 : Int) ≤ (m : Int) ∧ (m : Int) ≤ 3) = false := by simp; omega
      rw [if_neg h3] at HE
      go_enter Try.func43, Try.ntmps43
      go_wp2_with (first | (go_at_call 64; refine (areLots_any n _).mono ?_; rintro e w1 ⟨rfl, rfl⟩; rw [hd]) | (go_at_call 62; refine (areWeighings_any _ _).mono ?_; rintro e w1 ⟨rfl, rfl⟩; rw [hd3]))
      go_ret
      exact ⟨ret_int HE.out.symm, Bel.refl _⟩
  · have hd : decide (1 ≤ n ∧ n ≤ 13) = false := by simpa using h1
    rw [if_neg h1] at HE
    go_enter Try.func43, Try.ntmps43
    go_wp2_with (go_at_call 64; refine (areLots_any n _).mono ?_; rintro e w1 ⟨rfl, rfl⟩; rw [hd])
    go_ret
    exact ⟨ret_int HE.out.symm, Bel.refl _⟩
end Go.Proofs.Ytmckoehkekkldaa
