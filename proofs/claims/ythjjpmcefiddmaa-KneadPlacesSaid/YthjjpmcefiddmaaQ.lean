/- The document's Place. -/
import Derived.Test.YthjjpmcefiddmaaP
namespace Go.Proofs.Ythjjpmcefiddmaa
open Go.RowKit

attribute [local go_sem] Oper.semAt_some

theorem okN_eD {n : Int} : okN n = decide (eD n = 0) := by unfold eD; cases okN n <;> rfl
set_option maxRecDepth 100000 in
set_option maxHeartbeats 1000000 in
theorem rplace_ok (h : Nat) (A : Option Addr) (n c : Nat) (ws : List Int) (p : Nat) (w : World) (h1 : 1 ≤ h) (h16 : h ≤ 16) (hp : p < 2 * h) (hR : Ints w A ws) (hn : ws.length = n) (hE : eW ws = 0) :
    Calls Try.prog 52 #[.int .i64 ((2 * h : Nat) : Int), .slice A n c, .int .i64 (p : Int)] w fun e w' => e = .returned (.tuple #[.int .i64 ((goW h ws p : Nat) : Int), .int .i64 0]) ∧ Bel w w' := by
  obtain ⟨hw1, hw2⟩ := eW_zero hE
  have hmx : n ≤ maxLen := by unfold maxLen; omega
  obtain ⟨L, hL⟩ : ∃ L : Int, L = ((2 * h : Nat) : Int) := ⟨_, rfl⟩
  have HL := Lib.hid hL
  have HO := Lib.hid (show okN L = true from by rw [okN_eD, hL, eD_half h1 h16]; rfl)
  have HI := Lib.hid (decide_eq_true (show 0 ≤ (p : Int) ∧ (p : Int) ≤ L - 1 by omega))
  have hL2 : 2 ≤ L := by omega
  have hL3 : L ≤ 32 := by omega
  have HE := Lib.hid hE; have Hn := Lib.hid hn
  rw [← hL]
  obtain ⟨y, hy⟩ : ∃ y, y = goW h ws p := ⟨_, rfl⟩
  rw [← hy]
  have HY := Lib.hid hy
  clear hE hn hw1 hL hy
  go_enter Try.func52, Try.ntmps52
  go_wp2_with fail
  refine (isLumps_any L _).mono ?_
  rintro e w1 ⟨rfl, hw⟩
  subst hw
  rw [HO.out]
  go_wp2_with fail
  refine (within_any _ _ _ _).mono ?_
  rintro e w1 ⟨rfl, hw⟩
  subst hw
  rw [HI.out]
  go_wp2_with fail
  refine (worded_any A n c ws _ hR Hn.out hmx).mono ?_
  rintro e w1 ⟨rfl, hw⟩
  subst hw
  rw [HE.out]
  go_wp2_with fail
  rw [HL.out]
  refine (along_any h A n c ws p _ h16 hp hR Hn.out hmx hw2).mono ?_
  rintro e w1 ⟨rfl, hw⟩
  subst hw
  rw [← HL.out, ← HY.out]
  go_wp2
  exact bodyPost_ret (v := .tuple #[.int .i64 (y : Int), .int .i64 0]) (by simp [results, Try.results52, go_sem]) rfl ⟨rfl, Bel.refl _⟩
theorem eP_one (n p : Int) : eP n [p] = if eD n = 0 then (if 0 ≤ p ∧ p < n then 0 else 4) else 1 := by
  unfold eP
  by_cases h : 0 ≤ p ∧ p < n <;> simp [inN, h]
set_option maxRecDepth 100000 in
set_option maxHeartbeats 1000000 in
theorem rplace_err (L : Int) (A : Option Addr) (n c : Nat) (ws : List Int) (p : Int) (w : World) (hR : Ints w A ws) (hn : ws.length = n) (hmx : n ≤ maxLen) (hE : eL L ws p ≠ 0) :
    Calls Try.prog 52 #[.int .i64 L, .slice A n c, .int .i64 p] w fun e w' => e = .returned (.tuple #[.int .i64 0, .int .i64 (eL L ws p)]) ∧ Bel w w' := by
  by_cases hD : eD L = 0
  · obtain ⟨k, k1, k2, k3⟩ := eD_zero hD
    have hL2 : 2 ≤ L := by omega
    have hL3 : L ≤ 32 := by omega
    have HO := Lib.hid (show okN L = true from by rw [okN_eD, hD]; rfl)
    by_cases hI : 0 ≤ p ∧ p < L
    · have hX : eL L ws p = eW ws := by unfold eL; rw [eP_one, if_pos hD, if_pos hI, if_pos rfl]
      rw [hX] at hE ⊢
      have HI := Lib.hid (decide_eq_true (show 0 ≤ p ∧ p ≤ L - 1 by omega))
      obtain ⟨x, hx⟩ : ∃ x, x = eW ws := ⟨_, rfl⟩
      have HX := Lib.hid hx
      have hx0 : (x != 0) = true := by rw [hx]; simpa using hE
      rw [← hx]
      clear hE hx hX hI k3 hD
      go_enter Try.func52, Try.ntmps52
      go_wp2_with fail
      refine (isLumps_any L _).mono ?_
      rintro e w1 ⟨rfl, hw⟩
      subst hw
      rw [HO.out]
      go_wp2_with fail
      refine (within_any _ _ _ _).mono ?_
      rintro e w1 ⟨rfl, hw⟩
      subst hw
      rw [HI.out]
      go_wp2_with fail
      refine (worded_any A n c ws _ hR hn hmx).mono ?_
      rintro e w1 ⟨rfl, hw⟩
      subst hw
      rw [← HX.out]
      go_wp2
      exact bodyPost_ret (v := .tuple #[.int .i64 0, .int .i64 x]) (by simp [results, Try.results52, go_sem]) rfl ⟨rfl, Bel.refl _⟩
    · have hX : eL L ws p = 4 := by unfold eL; rw [eP_one, if_pos hD, if_neg hI, if_neg (by decide)]
      rw [hX]
      have HI := Lib.hid (decide_eq_false (show ¬ (0 ≤ p ∧ p ≤ L - 1) by omega))
      clear hE hX hI k3 hD
      go_enter Try.func52, Try.ntmps52
      go_wp2_with fail
      refine (isLumps_any L _).mono ?_
      rintro e w1 ⟨rfl, hw⟩
      subst hw
      rw [HO.out]
      go_wp2_with fail
      refine (within_any _ _ _ _).mono ?_
      rintro e w1 ⟨rfl, hw⟩
      subst hw
      rw [HI.out]
      go_wp2
      exact bodyPost_ret (v := .tuple #[.int .i64 0, .int .i64 4]) (by simp [results, Try.results52, go_sem]) rfl ⟨rfl, Bel.refl _⟩
  · have hX : eL L ws p = 1 := by unfold eL; rw [eP_one, if_neg hD, if_neg (by decide)]
    rw [hX]
    have HO := Lib.hid (show okN L = false from by rw [okN_eD]; exact decide_eq_false hD)
    clear hE hX hD
    go_enter Try.func52, Try.ntmps52
    go_wp2_with fail
    refine (isLumps_any L _).mono ?_
    rintro e w1 ⟨rfl, hw⟩
    subst hw
    rw [HO.out]
    go_wp2
    exact bodyPost_ret (v := .tuple #[.int .i64 0, .int .i64 1]) (by simp [results, Try.results52, go_sem]) rfl ⟨rfl, Bel.refl _⟩
end Go.Proofs.Ythjjpmcefiddmaa
