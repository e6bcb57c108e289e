/- Most, CanTell, Least, by the document and by the program. -/
import Derived.Test.YtmckoehkekkldaaUD
namespace Go.Proofs.Ytmckoehkekkldaa
open Go.RowKit

set_option maxRecDepth 100000 in
set_option maxHeartbeats 1000000 in
theorem can_any (a k : Nat) (w : World) (hk : k ≤ 3) (h1 : 1 ≤ a) (h13 : a ≤ 13) : Calls Try.prog 61 #[.int .i64 (a : Int), .int .i64 (k : Int)] w fun e w' => e = .returned (.bool (decide (3 ≤ a) && decide ((a : Int) ≤ mostN k))) ∧ Bel w w' := by
  have HC : Hid (someL (mksL k 27) a 0 0 0 = (decide (3 ≤ a) && decide ((a : Int) ≤ mostN k))) := canB_eq k (by omega) a (by omega) (by omega)
  have HL := Lib.hid (mksL_length k 27)
  have HB := Lib.hid (mksL_bd (k := k) (m := 27) (by omega))
  have HO := Lib.hid (some_all (mksL k 27))
  go_enter Try.func61, Try.ntmps61
  go_wp2_with fail
  refine (rMarks3_any k _).mono ?_
  rintro e w1 ⟨A, n, c, rfl, hn, hcap, hb1, hM⟩
  have HN := Lib.hid hn
  have h27 : n ≤ 27 := by rw [hn]; exact HL.out
  clear hn
  go_wp2_with fail
  refine (HO.out A n c a 0 0 0 _ hM HN.out.symm hcap h27 (by omega) (by omega) (by omega) (by omega) HB.out).mono ?_
  rintro e w2 ⟨rfl, hb2⟩
  rw [HC.out]
  go_wp2
  go_ret
  exact ⟨rfl, hb1.trans hb2⟩
/-- The error of two numbers. -/
def errN (a k : Int) : Int := if (1 ≤ a ∧ a ≤ 13) ∧ 0 ≤ k ∧ k ≤ 3 then 0 else 1
set_option maxRecDepth 100000 in
theorem numbered_any (a k : Int) (w : World) : Calls Try.prog 60 #[.int .i64 a, .int .i64 k] w fun e w' => e = .returned (.int .i64 (errN a k)) ∧ w = w' := by
  by_cases h1 : 1 ≤ a ∧ a ≤ 13
  · by_cases h2 : 0 ≤ k ∧ k ≤ 3
    · have HE : Hid (errN a k = 0) := by show _ = _; unfold errN; rw [if_pos ⟨h1, h2⟩]
      have H1 := Lib.hid h1; have H2 := Lib.hid h2
      clear h1 h2
      go_enter Try.func60, Try.ntmps60
      go_wp2_with fail
      refine (within_yes _ _ _ _ H1.out).mono ?_
      rintro e w1 ⟨rfl, rfl⟩
      go_wp2_with fail
      refine (within_yes _ _ _ _ H2.out).mono ?_
      rintro e w1 ⟨rfl, rfl⟩
      go_wp2
      go_ret
      exact ⟨ret_int HE.out.symm, rfl⟩
    · have HE : Hid (errN a k = 1) := by show _ = _; unfold errN; rw [if_neg (fun h => h2 h.2)]
      have H1 := Lib.hid h1; have H2 := Lib.hid h2
      clear h1 h2
      go_enter Try.func60, Try.ntmps60
      go_wp2_with fail
      refine (within_yes _ _ _ _ H1.out).mono ?_
      rintro e w1 ⟨rfl, rfl⟩
      go_wp2_with fail
      refine (within_no _ _ _ _ H2.out).mono ?_
      rintro e w1 ⟨rfl, rfl⟩
      go_wp2
      go_ret
      exact ⟨ret_int HE.out.symm, rfl⟩
  · have HE : Hid (errN a k = 1) := by show _ = _; unfold errN; rw [if_neg (fun h => h1 h.1)]
    have H1 := Lib.hid h1
    clear h1
    go_enter Try.func60, Try.ntmps60
    go_wp2_with fail
    refine (within_no _ _ _ _ H1.out).mono ?_
    rintro e w1 ⟨rfl, rfl⟩
    go_wp2
    go_ret
    exact ⟨ret_int HE.out.symm, rfl⟩
/-- Can so many lots be told? -/
def canV (a k : Int) : Bool := if errN a k = 0 then decide (3 ≤ a) && decide (a ≤ mostN k) else false
theorem errN_zero {a k : Int} (h : errN a k = 0) : ∃ a' k' : Nat, a = (a' : Int) ∧ k = (k' : Int) ∧ 1 ≤ a' ∧ a' ≤ 13 ∧ k' ≤ 3 := by
  unfold errN at h
  split at h
  · rename_i h1
    exact ⟨a.toNat, k.toNat, by omega, by omega, by omega, by omega, by omega⟩
  · cases h
theorem canV_nat {a k : Nat} (h : errN (a : Int) (k : Int) = 0) : canV (a : Int) (k : Int) = (decide (3 ≤ a) && decide ((a : Int) ≤ mostN k)) := by
  unfold canV
  rw [if_pos h]
  congr 1
  rw [Bool.eq_iff_iff, decide_eq_true_iff, decide_eq_true_iff]
  omega
set_option maxRecDepth 100000 in
theorem rCanTell_any (a k : Int) (w : World) : Calls Try.prog 31 #[.int .i64 a, .int .i64 k] w fun e w' => e = .returned (.tuple #[.bool (canV a k), .int .i64 (errN a k)]) ∧ Bel w w' := by
  by_cases h : errN a k = 0
  · obtain ⟨a', k', rfl, rfl, h1, h13, h3⟩ := errN_zero h
    have HE := Lib.hid h
    have HV := Lib.hid (canV_nat h)
    clear h
    go_enter Try.func31, Try.ntmps31
    go_wp2_with fail
    refine (numbered_any _ _ _).mono ?_
    rintro e w1 ⟨rfl, rfl⟩
    rw [HE.out]
    go_wp2_with fail
    refine (can_any a' k' _ h3 h1 h13).mono ?_
    rintro e w1 ⟨rfl, hb1⟩
    rw [← HV.out]
    go_wp2
    exact bodyPost_ret (v := .tuple #[.bool (canV (a' : Int) (k' : Int)), .int .i64 0]) (by simp [results, Try.results31, go_sem]) rfl ⟨by rw [HE.out], hb1⟩
  · have h' : (errN a k != 0) = true := by simpa using h
    have HV : Hid (canV a k = false) := by show _ = _; unfold canV; rw [if_neg h]
    obtain ⟨v, hv⟩ : ∃ v, v = errN a k := ⟨_, rfl⟩
    have HE := Lib.hid hv
    rw [← hv] at h h'
    clear hv
    go_enter Try.func31, Try.ntmps31
    go_wp2_with fail
    refine (numbered_any _ _ _).mono ?_
    rintro e w1 ⟨rfl, rfl⟩
    rw [← HE.out]
    go_wp2
    exact bodyPost_ret (v := .tuple #[.bool false, .int .i64 v]) (by simp [results, Try.results31, go_sem]) rfl ⟨by rw [HE.out, HV.out], Bel.refl _⟩
theorem errM_errN (k : Int) : errN 1 k = errM k := by
  unfold errN errM
  by_cases h : 0 ≤ k ∧ k ≤ 3
  · rw [if_pos ⟨by omega, h⟩, if_pos h]
  · rw [if_neg (fun h' => h h'.2), if_neg h]
set_option maxRecDepth 100000 in
set_option maxHeartbeats 1000000 in
theorem rMost_any (k : Int) (w : World) : Calls Try.prog 30 #[.int .i64 k] w fun e w' => e = .returned (.tuple #[.int .i64 (mostN k), .int .i64 (errM k)]) ∧ Bel w w' := by
  by_cases h : errM k = 0
  · have h3 : 0 ≤ k ∧ k ≤ 3 := by
      unfold errM at h
      split at h
      · assumption
      · cases h
    obtain ⟨k', rfl⟩ := Int.eq_ofNat_of_zero_le h3.1
    have hk3 : k' ≤ 3 := by omega
    have hmv : mostN (k' : Int) = 0 ∨ (3 ≤ mostN (k' : Int) ∧ mostN (k' : Int) ≤ 12) := by
      rcases (by omega : k' = 0 ∨ k' = 1 ∨ k' = 2 ∨ k' = 3) with rfl | rfl | rfl | rfl <;> decide
    have HM := Lib.hid hmv
    have HE := Lib.hid h
    have HN := Lib.hid (errM_errN (k' : Int))
    clear h h3 hmv
    go_enter Try.func30, Try.ntmps30
    go_wp2_with fail
    refine (numbered_any _ _ _).mono ?_
    rintro e w1 ⟨rfl, rfl⟩
    rw [HN.out, HE.out]
    go_wp2
    go_loopw [5] (fun i wr => ∃ a : Nat, a ≤ 13 ∧ i = .int .i64 a ∧ Bel w wr ∧ ∀ b : Nat, a < b → b ≤ 13 → (decide (3 ≤ b) && decide ((b : Int) ≤ mostN (k' : Int))) = false) (fun i _ => (intOf i).toNat)
    case atStart => exact ⟨13, by omega, rfl, Bel.refl _, fun b h1 h2 => by omega⟩
    case round =>
      obtain ⟨a, ha, rfl, hb, hno⟩ := hrel
      have HNO := Lib.hid hno
      clear hno
      by_cases ha0 : 0 < a
      · have hai : (a : Int) > 0 := by omega
        cases hc : decide (3 ≤ a) && decide ((a : Int) ≤ mostN (k' : Int))
        · have HNX : Hid (∀ b : Nat, a - 1 < b → b ≤ 13 → (decide (3 ≤ b) && decide ((b : Int) ≤ mostN (k' : Int))) = false) := fun b h1 h2 => by
            rcases (by omega : a < b ∨ b = a) with h | rfl
            · exact HNO.out b h h2
            · exact hc
          have HC := Lib.hid hc
          clear hc
          go_wp2_with fail
          refine (can_any a k' _ hk3 (by omega) ha).mono ?_
          rintro e w2 ⟨rfl, hb2⟩
          rw [HC.out]
          go_wp2
          go_roundw
          case rel => exact ⟨a - 1, by omega, by go_num, by (repeat (first | exact Bel.refl _ | assumption | refine Bel.drew ?_ | refine Bel.drewN ?_ _ | refine Bel.alloc ?_ _ | refine Bel.setCell ?_ (by first | omega | (simp; done) | (simp; omega) | (simp at *; omega)) _ | refine Bel.trans ?_ (by assumption))), HNX.out⟩
          case measure => simp [intOf]; omega
        · have HV : Hid (mostN (k' : Int) = (a : Int)) := by
            show _ = _
            have h1 : (a : Int) ≤ mostN (k' : Int) := by
              simp only [Bool.and_eq_true, decide_eq_true_eq] at hc
              exact hc.2
            rcases HM.out with h0 | ⟨h0, h12⟩
            · simp only [Bool.and_eq_true, decide_eq_true_eq] at hc
              omega
            · by_cases heq : mostN (k' : Int) = (a : Int)
              · exact heq
              · have := HNO.out (mostN (k' : Int)).toNat (by omega) (by omega)
                rw [decide_eq_true (by omega), decide_eq_true (by omega)] at this
                cases this
          have HC := Lib.hid hc
          clear hc
          go_wp2_with fail
          refine (can_any a k' _ hk3 (by omega) ha).mono ?_
          rintro e w2 ⟨rfl, hb2⟩
          rw [HC.out]
          go_wp2
          exact bodyPost_ret (v := .tuple #[.int .i64 (a : Int), .int .i64 0]) (by simp [results, Try.results30, go_sem]) rfl ⟨by rw [HV.out, HE.out], hb.trans hb2⟩
      · obtain rfl : a = 0 := by omega
        have HV : Hid (mostN (k' : Int) = 0) := by
          show _ = _
          rcases HM.out with h0 | ⟨h0, h12⟩
          · exact h0
          · have := HNO.out (mostN (k' : Int)).toNat (by omega) (by omega)
            rw [decide_eq_true (by omega), decide_eq_true (by omega)] at this
            cases this
        go_wp2
        exact bodyPost_ret (v := .tuple #[.int .i64 0, .int .i64 0]) (by simp [results, Try.results30, go_sem]) rfl ⟨by rw [HV.out, HE.out], hb⟩
  · have h' : (errM k != 0) = true := by simpa using h
    have HV : Hid (mostN k = 0) := by
      show _ = _
      unfold errM at h
      split at h
      · exact absurd rfl h
      · rename_i h3
        unfold mostN
        rw [if_neg (by omega), if_neg (by omega)]
    have HN := Lib.hid (errM_errN k)
    obtain ⟨v, hv⟩ : ∃ v, v = errM k := ⟨_, rfl⟩
    have HE := Lib.hid hv
    rw [← hv] at h h'
    clear hv
    go_enter Try.func30, Try.ntmps30
    go_wp2_with fail
    refine (numbered_any _ _ _).mono ?_
    rintro e w1 ⟨rfl, rfl⟩
    rw [HN.out, ← HE.out]
    go_wp2
    exact bodyPost_ret (v := .tuple #[.int .i64 0, .int .i64 v]) (by simp [results, Try.results30, go_sem]) rfl ⟨by rw [HE.out, HV.out], Bel.refl _⟩
set_option maxRecDepth 100000 in
theorem canTell_any (a k : Int) (w : World) : Calls Try.prog 33 #[.int .i64 a, .int .i64 k] w fun e w' => e = .returned (.tuple #[.bool (canV a k), .int .i64 (errN a k)]) ∧ w = w' := by
  by_cases h1 : 1 ≤ a ∧ a ≤ 13
  · have hd : decide (1 ≤ a ∧ a ≤ 13) = true := by simpa using h1
    have HE : Hid (errN a k = errM k) := by
      show _ = _
      unfold errN errM
      by_cases h : 0 ≤ k ∧ k ≤ 3
      · rw [if_pos ⟨h1, h⟩, if_pos h]
      · rw [if_neg (fun h' => h h'.2), if_neg h]
    have HV : Hid (canV a k = (decide (3 ≤ a) && decide (a ≤ mostN k))) := by
      show _ = _
      unfold canV
      rw [HE.out]
      by_cases h : errM k = 0
      · rw [if_pos h]
      · rw [if_neg h]
        have : mostN k = 0 := by
          unfold errM at h
          split at h
          · exact absurd rfl h
          · unfold mostN
            rw [if_neg (by omega), if_neg (by omega)]
        rw [this]
        by_cases h3 : 3 ≤ a
        · rw [decide_eq_false (show ¬ a ≤ 0 by omega)]; simp
        · rw [decide_eq_false h3]; simp
    obtain ⟨mv, hmv⟩ : ∃ v, v = mostN k := ⟨_, rfl⟩
    obtain ⟨ev, hev⟩ : ∃ v, v = errM k := ⟨_, rfl⟩
    have HMV := Lib.hid hmv; have HEV := Lib.hid hev
    clear hmv hev h1
    by_cases h3 : 3 ≤ a
    · by_cases h4 : a ≤ mv
      · have HX : Hid (canV a k = true) := by show _ = _; rw [HV.out, ← HMV.out, decide_eq_true h3, decide_eq_true h4]; rfl
        go_enter Try.func33, Try.ntmps33
        go_wp2_with (first | (go_at_call 64; refine (areLots_any _ _).mono ?_; rintro e w1 ⟨rfl, rfl⟩; rw [hd]) | (go_at_call 32; refine (most_any _ _).mono ?_; rintro e w1 ⟨rfl, rfl⟩; rw [← HMV.out, ← HEV.out]))
        exact bodyPost_ret (v := .tuple #[.bool true, .int .i64 ev]) (by simp [results, Try.results33, go_sem]) rfl ⟨by rw [HX.out, HE.out, HEV.out], rfl⟩
      · have HX : Hid (canV a k = false) := by show _ = _; rw [HV.out, ← HMV.out, decide_eq_true h3, decide_eq_false h4]; rfl
        go_enter Try.func33, Try.ntmps33
        go_wp2_with (first | (go_at_call 64; refine (areLots_any _ _).mono ?_; rintro e w1 ⟨rfl, rfl⟩; rw [hd]) | (go_at_call 32; refine (most_any _ _).mono ?_; rintro e w1 ⟨rfl, rfl⟩; rw [← HMV.out, ← HEV.out]))
        exact bodyPost_ret (v := .tuple #[.bool false, .int .i64 ev]) (by simp [results, Try.results33, go_sem]; omega) rfl ⟨by rw [HX.out, HE.out, HEV.out], rfl⟩
    · have HX : Hid (canV a k = false) := by show _ = _; rw [HV.out, decide_eq_false h3]; rfl
      go_enter Try.func33, Try.ntmps33
      go_wp2_with (first | (go_at_call 64; refine (areLots_any _ _).mono ?_; rintro e w1 ⟨rfl, rfl⟩; rw [hd]) | (go_at_call 32; refine (most_any _ _).mono ?_; rintro e w1 ⟨rfl, rfl⟩; rw [← HMV.out, ← HEV.out]))
      exact bodyPost_ret (v := .tuple #[.bool false, .int .i64 ev]) (by simp [results, Try.results33, go_sem]) rfl ⟨by rw [HX.out, HE.out, HEV.out], rfl⟩
  · have hd : decide (1 ≤ a ∧ a ≤ 13) = false := by simpa using h1
    have HE : Hid (errN a k = 1) := by show _ = _; unfold errN; rw [if_neg (fun h => h1 h.1)]
    have HX : Hid (canV a k = false) := by show _ = _; unfold canV; rw [HE.out]; rfl
    go_enter Try.func33, Try.ntmps33
    go_wp2_with (go_at_call 64; refine (areLots_any _ _).mono ?_; rintro e w1 ⟨rfl, rfl⟩; rw [hd])
    exact bodyPost_ret (v := .tuple #[.bool false, .int .i64 1]) (by simp [results, Try.results33, go_sem]) rfl ⟨by rw [HX.out, HE.out], rfl⟩
end Go.Proofs.Ytmckoehkekkldaa
