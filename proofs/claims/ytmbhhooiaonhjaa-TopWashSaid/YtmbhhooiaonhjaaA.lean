/- The functions of integers and fractions: each returns what the plain mathematics says, for all arguments in range. -/
import Derived.Test.YtmbhhooiaonhjaaB
namespace Go.Proofs.Ytmbhhooiaonhjaa
open Go.RowKit

set_option maxHeartbeats 400000 in
theorem within_any (n lo hi : Int) (w : World) :
    Calls Try.prog 54 #[.int .i64 n, .int .i64 lo, .int .i64 hi] w fun e w' => e = .returned (.bool (within n lo hi)) ∧ w = w' := by
  go_enter Try.func54, Try.ntmps54
  go_wp2
  all_goals (go_ret; exact ⟨by simp [within]; omega, rfl⟩)

set_option maxHeartbeats 400000 in
theorem isTime_any (n : Int) (w : World) :
    Calls Try.prog 43 #[.int .i64 n] w fun e w' => e = .returned (.bool (within n 0 100)) ∧ w = w' := by
  go_enter Try.func43, Try.ntmps43
  go_wp2
  all_goals (go_ret; exact ⟨by simp [within]; omega, rfl⟩)

set_option maxHeartbeats 400000 in
theorem isDepth_any (n : Int) (w : World) :
    Calls Try.prog 44 #[.int .i64 n] w fun e w' => e = .returned (.bool (within n 1 20)) ∧ w = w' := by
  go_enter Try.func44, Try.ntmps44
  go_wp2
  all_goals (go_ret; exact ⟨by simp [within]; omega, rfl⟩)

set_option maxHeartbeats 400000 in
theorem settling_any (t d : Int) (w : World) :
    Calls Try.prog 36 #[.int .i64 t, .int .i64 d] w fun e w' => e = .returned (.bool (within t 0 100 && within d 1 20)) ∧ w = w' := by
  go_enter Try.func36, Try.ntmps36
  go_wp2_with (go_at_call 54; refine (within_any _ _ _ _).mono ?_; rintro e w' ⟨rfl, rfl⟩)
  · have h : within t 0 100 = true := by assumption
    go_ret
    exact ⟨by simp [h], rfl⟩
  · have h : ¬ within t 0 100 = true := by assumption
    go_ret
    exact ⟨by simp [h], rfl⟩

set_option maxHeartbeats 400000 in
theorem sinks_any (s t d : Int) (w : World) (h1 : 0 ≤ s * t) (h2 : s * t ≤ 100000) :
    Calls Try.prog 37 #[.int .i64 s, .int .i64 t, .int .i64 d] w fun e w' => e = .returned (.int .i64 (skn s t d)) ∧ w = w' := by
  go_enter Try.func37, Try.ntmps37
  go_wp2
  all_goals (go_ret; exact ⟨ret_int (by unfold skn; omega), rfl⟩)

set_option maxHeartbeats 400000 in
theorem gcd_any (a b : Int) (w : World) (h1 : 0 ≤ a) (h2 : 0 ≤ b) (h3 : a ≤ 1000000000000000) (h4 : b ≤ 1000000000000000) :
    Calls Try.prog 42 #[.int .i64 a, .int .i64 b] w fun e w' => e = .returned (.int .i64 (gc a b)) ∧ w = w' := by
  go_enter Try.func42, Try.ntmps42
  go_wp2
  go_loop [0, 1, 5] (fun x y _ => ∃ p q : Int, x = .int .i64 p ∧ y = .int .i64 q ∧ 0 ≤ p ∧ 0 ≤ q ∧ p ≤ 1000000000000000 ∧ q ≤ 1000000000000000 ∧ gc p q = gc a b) (fun _ y _ => (intOf y).toNat)
  case atStart => exact ⟨a, b, rfl, rfl, h1, h2, h3, h4, rfl⟩
  case round =>
    obtain ⟨p, q, rfl, rfl, hp, hq, hp1, hq1, hg⟩ := hrel
    have Hg := Lib.hid hg; clear hg
    by_cases h0 : q = 0
    · subst h0
      go_wp2
      go_ret
      exact ⟨ret_int (by rw [← Hg.out, gc_zero_right p hp]), rfl⟩
    · have hm1 := Int.emod_nonneg p h0
      have hm2 := Int.emod_lt_of_pos p (show 0 < q by omega)
      go_wp2
      go_round
      case rel => exact ⟨q, p % q, rfl, rfl, by omega, by omega, by omega, by omega, by rw [← Hg.out, gc_comm q, gc_step q p (by omega) hp, gc_comm]⟩
      case measure => simp [intOf]; omega

set_option maxHeartbeats 400000 in
theorem lowest_any (n d : Int) (w : World) (h1 : 0 ≤ n) (h2 : 0 < d) (h3 : n ≤ 1000000000000000) (h4 : d ≤ 1000000000000000) :
    Calls Try.prog 56 #[.int .i64 n, .int .i64 d] w fun e w' => e = .returned (.agg #[.int .i64 (num n d), .int .i64 (den n d)]) ∧ Bel w w' := by
  go_enter Try.func56, Try.ntmps56
  go_wp2
  go_loop [5, 6] (fun x y => ∃ p q : Int, x = .int .i64 p ∧ y = .int .i64 q ∧ 0 ≤ p ∧ 0 < q ∧ p ≤ 1000000000000000 ∧ q ≤ 1000000000000000 ∧ gc p q = gc n d) (fun x _ => (intOf x).toNat)
  case atStart => exact ⟨n, d, rfl, rfl, h1, h2, h3, h4, rfl⟩
  case round =>
    obtain ⟨p, q, rfl, rfl, hp, hq, hp1, hq1, hg⟩ := hrel
    have Hg := Lib.hid hg; clear hg
    by_cases h0 : p = 0
    · subst h0
      obtain rfl : q = gc n d := by rw [← Hg.out, gc_zero_left q (by omega)]
      go_wp2
      go_region
      go_wp2
      exact bodyPost_ret (v := .agg #[.int .i64 (num n d), .int .i64 (den n d)]) (by simp [results, Try.results56, go_sem]; exact ⟨rfl, rfl⟩) rfl ⟨rfl, by (repeat (first | exact Bel.refl _ | assumption | refine Bel.drew ?_ | refine Bel.drewN ?_ _ | refine Bel.alloc ?_ _ | refine Bel.setCell ?_ (by first | omega | (simp; done) | (simp; omega) | (simp at *; omega)) _ | refine Bel.trans ?_ (by assumption)))⟩
    · have hm1 := Int.emod_nonneg q h0
      have hm2 := Int.emod_lt_of_pos q (show 0 < p by omega)
      go_wp2
      go_round
      case rel => exact ⟨q % p, p, rfl, rfl, by omega, by omega, by omega, by omega, by rw [← Hg.out, gc_step p q (by omega) (by omega)]⟩
      case measure => simp [intOf]; omega

set_option maxHeartbeats 400000 in
theorem ratio_any (n d : Int) (w : World) (h1 : 0 ≤ n) (h2 : 0 < d) (h3 : n ≤ 1000000000000000) (h4 : d ≤ 1000000000000000) :
    Calls Try.prog 22 #[.int .i64 n, .int .i64 d] w fun e w' => e = .returned (.agg #[.int .i64 (num n d), .int .i64 (den n d)]) ∧ Bel w w' := by
  have hg := gc_pos n d h2
  have hg1 := gc_le n d h2
  go_enter Try.func22, Try.ntmps22
  go_wp2_with (go_at_call 42; refine (gcd_any _ _ _ (by omega) (by omega) (by omega) (by omega)).mono ?_; rintro e w' ⟨rfl, rfl⟩)
  go_region
  go_wp2
  exact bodyPost_ret (v := .agg #[.int .i64 (num n d), .int .i64 (den n d)]) (by simp [results, Try.results22, go_sem]; exact ⟨rfl, rfl⟩) rfl ⟨rfl, by (repeat (first | exact Bel.refl _ | assumption | refine Bel.drew ?_ | refine Bel.drewN ?_ _ | refine Bel.alloc ?_ _ | refine Bel.setCell ?_ (by first | omega | (simp; done) | (simp; omega) | (simp at *; omega)) _ | refine Bel.trans ?_ (by assumption)))⟩

set_option maxHeartbeats 400000 in
theorem product_any (a b c d : Int) (w : World) (h1 : 0 ≤ a * c) (h2 : 0 < b * d) (h3 : a * c ≤ 1000000000000000) (h4 : b * d ≤ 1000000000000000) :
    Calls Try.prog 60 #[.agg #[.int .i64 a, .int .i64 b], .agg #[.int .i64 c, .int .i64 d]] w fun e w' => e = .returned (.agg #[.int .i64 (num (a * c) (b * d)), .int .i64 (den (a * c) (b * d))]) ∧ Bel w w' := by
  go_enter Try.func60, Try.ntmps60
  go_wp2_with (go_at_call 56; refine (lowest_any _ _ _ (by omega) (by omega) (by omega) (by omega)).mono ?_; rintro e w1 ⟨rfl, hb⟩; obtain ⟨hc, hf, hz⟩ := hb.use; simp at hz)
  exact bodyPost_ret (v := .agg #[.int .i64 (num (a * c) (b * d)), .int .i64 (den (a * c) (b * d))]) (by simp [results, Try.results60, go_sem, hc]) rfl ⟨rfl, by (repeat (first | exact Bel.refl _ | assumption | refine Bel.drew ?_ | refine Bel.drewN ?_ _ | refine Bel.alloc ?_ _ | refine Bel.setCell ?_ (by first | omega | (simp; done) | (simp; omega) | (simp at *; omega)) _ | refine Bel.trans ?_ (by assumption)))⟩

set_option maxHeartbeats 400000 in
theorem oneMinus_any (a b : Int) (w : World) (h1 : 0 ≤ a) (h2 : a ≤ b) (h3 : b ≤ 1000000000000000) :
    Calls Try.prog 61 #[.agg #[.int .i64 a, .int .i64 b]] w fun e w' => e = .returned (.agg #[.int .i64 (b - a), .int .i64 b]) ∧ Bel w w' := by
  go_enter Try.func61, Try.ntmps61
  go_wp2
  exact bodyPost_ret (v := .agg #[.int .i64 (b - a), .int .i64 b]) (by simp [results, Try.results61, go_sem]) rfl ⟨rfl, by (repeat (first | exact Bel.refl _ | assumption | refine Bel.drew ?_ | refine Bel.drewN ?_ _ | refine Bel.alloc ?_ _ | refine Bel.setCell ?_ (by first | omega | (simp; done) | (simp; omega) | (simp at *; omega)) _ | refine Bel.trans ?_ (by assumption)))⟩

set_option maxHeartbeats 400000 in
theorem partOf_any (s t d : Int) (w : World) (h1 : 0 ≤ s) (h2 : s ≤ 20) (h3 : 0 ≤ t) (h4 : t ≤ 100) (h5 : 1 ≤ d) (h6 : d ≤ 20) :
    Calls Try.prog 45 #[.int .i64 s, .int .i64 t, .int .i64 d] w fun e w' => e = .returned (.agg #[.int .i64 (num (skn s t d) d), .int .i64 (den (skn s t d) d)]) ∧ Bel w w' := by
  obtain ⟨hp1, hp2⟩ := mul_bd h1 h2 h3 h4
  rcases Int.lt_or_le (s * t) d with hk | hk
  · have e1 : skn s t d = s * t := by unfold skn; omega
    rw [e1]
    clear e1
    go_enter Try.func45, Try.ntmps45
    go_wp2_with (go_at_call 56; refine (lowest_any _ _ _ (by omega) (by omega) (by omega) (by omega)).mono ?_; rintro e w1 ⟨rfl, hb⟩; obtain ⟨hc, hf, hz⟩ := hb.use; simp at hz)
    exact bodyPost_ret (v := .agg #[.int .i64 (num (s * t) d), .int .i64 (den (s * t) d)]) (by simp [results, Try.results45, go_sem, hc]) rfl ⟨rfl, by (repeat (first | exact Bel.refl _ | assumption | refine Bel.drew ?_ | refine Bel.drewN ?_ _ | refine Bel.alloc ?_ _ | refine Bel.setCell ?_ (by first | omega | (simp; done) | (simp; omega) | (simp at *; omega)) _ | refine Bel.trans ?_ (by assumption)))⟩
  · have e1 : skn s t d = d := by unfold skn; omega
    rw [e1]
    clear e1
    go_enter Try.func45, Try.ntmps45
    go_wp2_with (go_at_call 56; refine (lowest_any _ _ _ (by omega) (by omega) (by omega) (by omega)).mono ?_; rintro e w1 ⟨rfl, hb⟩; obtain ⟨hc, hf, hz⟩ := hb.use; simp at hz)
    exact bodyPost_ret (v := .agg #[.int .i64 (num d d), .int .i64 (den d d)]) (by simp [results, Try.results45, go_sem, hc]) rfl ⟨rfl, by (repeat (first | exact Bel.refl _ | assumption | refine Bel.drew ?_ | refine Bel.drewN ?_ _ | refine Bel.alloc ?_ _ | refine Bel.setCell ?_ (by first | omega | (simp; done) | (simp; omega) | (simp at *; omega)) _ | refine Bel.trans ?_ (by assumption)))⟩

set_option maxHeartbeats 400000 in
theorem add_any (a b c d : Int) (w : World) (h1 : 0 ≤ a * d) (h2 : 0 ≤ c * b) (h3 : a * d ≤ 100000000000000) (h4 : c * b ≤ 100000000000000) (h5 : 0 < b * d) (h6 : b * d ≤ 100000000000000) :
    Calls Try.prog 21 #[.agg #[.int .i64 a, .int .i64 b], .agg #[.int .i64 c, .int .i64 d]] w fun e w' => e = .returned (.agg #[.int .i64 (num (a * d + c * b) (b * d)), .int .i64 (den (a * d + c * b) (b * d))]) ∧ Bel w w' := by
  go_enter Try.func21, Try.ntmps21
  go_wp2_with (go_at_call 22; refine (ratio_any _ _ _ (by omega) (by omega) (by omega) (by omega)).mono ?_; rintro e w1 ⟨rfl, hb⟩; obtain ⟨hc, hf, hz⟩ := hb.use; simp at hz)
  exact bodyPost_ret (v := .agg #[.int .i64 (num (a * d + c * b) (b * d)), .int .i64 (den (a * d + c * b) (b * d))]) (by simp [results, Try.results21, go_sem, hc]) rfl ⟨rfl, by (repeat (first | exact Bel.refl _ | assumption | refine Bel.drew ?_ | refine Bel.drewN ?_ _ | refine Bel.alloc ?_ _ | refine Bel.setCell ?_ (by first | omega | (simp; done) | (simp; omega) | (simp at *; omega)) _ | refine Bel.trans ?_ (by assumption)))⟩

set_option maxHeartbeats 400000 in
theorem wpart_yes (s t d : Int) (w : World) (h : partOk s t d = true) :
    Calls Try.prog 25 #[.int .i64 s, .int .i64 t, .int .i64 d] w fun e w' => e = .returned (.tuple #[.agg #[.int .i64 (num (skn s t d) d), .int .i64 (den (skn s t d) d)], .int .i64 0]) ∧ Bel w w' := by
  obtain ⟨⟨h1, h2⟩, ⟨h3, h4⟩, h5, h6⟩ := partOk_iff.1 h
  have g2 : within t 0 100 = true := within_iff.2 ⟨h3, h4⟩
  have g3 : within d 1 20 = true := within_iff.2 ⟨h5, h6⟩
  clear h
  go_enter Try.func25, Try.ntmps25
  go_wp2_with (first | (go_at_call 43; refine (isTime_any _ _).mono ?_; rintro e w' ⟨rfl, rfl⟩) | (go_at_call 44; refine (isDepth_any _ _).mono ?_; rintro e w' ⟨rfl, rfl⟩) | (go_at_call 45; refine (partOf_any _ _ _ _ (by omega) (by omega) (by omega) (by omega) (by omega) (by omega)).mono ?_; rintro e w1 ⟨rfl, hb⟩; obtain ⟨hc, hf, hz⟩ := hb.use; simp at hz))
  exact bodyPost_ret (v := .tuple #[.agg #[.int .i64 (num (skn s t d) d), .int .i64 (den (skn s t d) d)], .int .i64 0]) (by simp [results, Try.results25, go_sem, hc]) rfl ⟨rfl, by (repeat (first | exact Bel.refl _ | assumption | refine Bel.drew ?_ | refine Bel.drewN ?_ _ | refine Bel.alloc ?_ _ | refine Bel.setCell ?_ (by first | omega | (simp; done) | (simp; omega) | (simp at *; omega)) _ | refine Bel.trans ?_ (by assumption)))⟩

set_option maxHeartbeats 400000 in
theorem wpart_no (s t d : Int) (w : World) (h : partOk s t d = false) :
    Calls Try.prog 25 #[.int .i64 s, .int .i64 t, .int .i64 d] w fun e w' => e = .returned (.tuple #[.agg #[.int .i64 0, .int .i64 0], .int .i64 1]) ∧ Bel w w' := by
  unfold partOk at h
  by_cases k1 : s < 1
  · go_enter Try.func25, Try.ntmps25
    go_wp2
    exact bodyPost_ret (v := .tuple #[.agg #[.int .i64 0, .int .i64 0], .int .i64 1]) (by simp [results, Try.results25, go_sem]) rfl ⟨rfl, by (repeat (first | exact Bel.refl _ | assumption | refine Bel.drew ?_ | refine Bel.drewN ?_ _ | refine Bel.alloc ?_ _ | refine Bel.setCell ?_ (by first | omega | (simp; done) | (simp; omega) | (simp at *; omega)) _ | refine Bel.trans ?_ (by assumption)))⟩
  by_cases k2 : 20 < s
  · go_enter Try.func25, Try.ntmps25
    go_wp2
    exact bodyPost_ret (v := .tuple #[.agg #[.int .i64 0, .int .i64 0], .int .i64 1]) (by simp [results, Try.results25, go_sem]) rfl ⟨rfl, by (repeat (first | exact Bel.refl _ | assumption | refine Bel.drew ?_ | refine Bel.drewN ?_ _ | refine Bel.alloc ?_ _ | refine Bel.setCell ?_ (by first | omega | (simp; done) | (simp; omega) | (simp at *; omega)) _ | refine Bel.trans ?_ (by assumption)))⟩
  have g1 : within s 1 20 = true := within_iff.2 ⟨by omega, by omega⟩
  cases g2 : within t 0 100 <;> cases g3 : within d 1 20
  case true.true => simp [g1, g2, g3] at h
  all_goals
    clear h g1
    go_enter Try.func25, Try.ntmps25
    go_wp2_with (first | (go_at_call 43; refine (isTime_any _ _).mono ?_; rintro e w' ⟨rfl, rfl⟩) | (go_at_call 44; refine (isDepth_any _ _).mono ?_; rintro e w' ⟨rfl, rfl⟩))
    exact bodyPost_ret (v := .tuple #[.agg #[.int .i64 0, .int .i64 0], .int .i64 1]) (by simp [results, Try.results25, go_sem]) rfl ⟨rfl, by (repeat (first | exact Bel.refl _ | assumption | refine Bel.drew ?_ | refine Bel.drewN ?_ _ | refine Bel.alloc ?_ _ | refine Bel.setCell ?_ (by first | omega | (simp; done) | (simp; omega) | (simp at *; omega)) _ | refine Bel.trans ?_ (by assumption)))⟩
end Go.Proofs.Ytmbhhooiaonhjaa

