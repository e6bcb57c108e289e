/- The document's own Validate. -/
import Derived.Test.YtmbhhooiaonhjaaC
namespace Go.Proofs.Ytmbhhooiaonhjaa
open Go.RowKit

theorem scan_lo {last : Int} {gs : List (Int × Int)} (h : scan last gs = true) {k : Nat} {s m : Int} (hg : gs[k]? = some (s, m)) : last < s :=
  (scan_mem h (s, m) (List.mem_of_getElem? hg)).1

set_option maxHeartbeats 400000 in
theorem rvalidate_any (A : Option Addr) (n c : Nat) (gs : List (Int × Int)) (w : World) (hR : Prs w A gs) (hn : gs.length = n) (hmax : n ≤ maxLen) :
    Calls Try.prog 35 #[.slice A n c] w fun e w' => e = .returned (.int .i64 (errV gs)) ∧ Bel w w' := by
  have Hn := Lib.hid hn; clear hn
  unfold maxLen at hmax
  by_cases h6 : 6 < n
  · have e : errV gs = 3 := by unfold errV; rw [if_pos (by rw [Hn.out]; exact h6)]
    rw [e]
    clear e
    go_enter Try.func35, Try.ntmps35
    go_wp2
    go_ret
    exact ⟨rfl, Bel.refl _⟩
  · have e : errV gs = if scan 0 gs = true then 0 else 1 := by unfold errV; rw [if_neg (by rw [Hn.out]; exact h6)]
    have HE := Lib.hid e
    clear e
    go_enter Try.func35, Try.ntmps35
    go_wp2
    go_loopw [3] (fun i wr => ∃ (k : Nat) (last : Int), k ≤ n ∧ i = .int .i64 k ∧ Bel w wr ∧ scan 0 gs = scan last (gs.drop k) ∧ (k = 0 → last = 0) ∧ (∀ j s m, k = j + 1 → gs[j]? = some (s, m) → last = s) ∧ 0 ≤ last) (fun i _ => n - (intOf i).toNat)
    case atStart => exact ⟨0, 0, Nat.zero_le _, rfl, Bel.refl _, rfl, fun _ => rfl, fun _ _ _ h => by omega, by omega⟩
    case round =>
      obtain ⟨k, last, hk, rfl, hb, hs, hz, hp, hl0⟩ := hrel
      have HS := Lib.hid hs; clear hs
      by_cases hlt : k < n
      · obtain ⟨b, o, s, m, rfl, hbl, hg, hc1, hc2⟩ := (hR.bel hb).at_ (k := k) (by rw [Hn.out]; exact hlt)
        have HG := Lib.hid (scan_step (last := last) hg)
        by_cases hok : last < s ∧ s ≤ 20 ∧ 1 ≤ m ∧ m ≤ 100
        · obtain ⟨k1, k2, k3, k4⟩ := hok
          have g1 : within s 1 20 = true := within_iff.2 ⟨by omega, by omega⟩
          have g2 : within m 1 100 = true := within_iff.2 ⟨by omega, by omega⟩
          have HN : Hid (scan 0 gs = scan s (gs.drop (k + 1))) := by
            show _ = _
            rw [HS.out, HG.out]; simp [k1, k2, k3, k4]
          have HP : Hid (∀ j s' m', k + 1 = j + 1 → gs[j]? = some (s', m') → s = s') := by
            intro j s' m' hj hg'
            obtain rfl : k = j := by omega
            rw [hg] at hg'
            injection hg' with hg'
            injection hg'
          rcases Nat.eq_zero_or_pos k with h0 | h0
          · have hd : decide (0 < k) = false := by simp; omega
            clear hg hp hz h0
            go_wp2
            (go_quiet ((go_at_call 54; exact Calls.quiet_of_same (((within_any _ _ _ _).mono fun _ _ h => ⟨h.1, h.2.symm⟩)))))
            go_wp2
            go_roundw
            case rel => exact ⟨k + 1, s, by omega, by go_num, by (repeat (first | exact Bel.refl _ | assumption | refine Bel.drew ?_ | refine Bel.drewN ?_ _ | refine Bel.alloc ?_ _ | refine Bel.setCell ?_ (by first | omega | (simp; done) | (simp; omega) | (simp at *; omega)) _ | refine Bel.trans ?_ (by assumption))), HN.out, fun h => by omega, HP.out, by omega⟩
            case measure => simp [intOf]; omega
          · obtain ⟨j, rfl⟩ : ∃ j, k = j + 1 := ⟨k - 1, by omega⟩
            obtain ⟨b', o', s', m', hA, _, hg', hd1, hd2⟩ := (hR.bel hb).at_ (k := j) (by rw [Hn.out]; omega)
            injection hA with hA
            injection hA with hA1 hA2
            subst hA1 hA2
            have hls := hp j s' m' rfl hg'
            subst hls
            clear hg hp hz hg'
            go_wp2
            (go_quiet ((go_at_call 54; exact Calls.quiet_of_same (((within_any _ _ _ _).mono fun _ _ h => ⟨h.1, h.2.symm⟩)))))
            go_wp2
            go_roundw
            case rel => exact ⟨j + 1 + 1, s, by omega, by go_num, by (repeat (first | exact Bel.refl _ | assumption | refine Bel.drew ?_ | refine Bel.drewN ?_ _ | refine Bel.alloc ?_ _ | refine Bel.setCell ?_ (by first | omega | (simp; done) | (simp; omega) | (simp at *; omega)) _ | refine Bel.trans ?_ (by assumption))), HN.out, fun h => by omega, HP.out, by omega⟩
            case measure => simp [intOf]; omega
        · have HF : Hid (errV gs = 1) := by
            show errV gs = 1
            rw [HE.out, HS.out, HG.out, if_neg]
            simp
            intros
            omega
          by_cases k1 : 1 ≤ s ∧ s ≤ 20
          · have g1 : within s 1 20 = true := within_iff.2 k1
            by_cases k2 : 1 ≤ m ∧ m ≤ 100
            · have g2 : within m 1 100 = true := within_iff.2 k2
              have k3 : s ≤ last := by omega
              obtain ⟨j, rfl⟩ : ∃ j, k = j + 1 := ⟨k - 1, by have := fun h => hz h; omega⟩
              obtain ⟨b', o', s', m', hA, _, hg', hd1, hd2⟩ := (hR.bel hb).at_ (k := j) (by rw [Hn.out]; omega)
              injection hA with hA
              injection hA with hA1 hA2
              subst hA1 hA2
              have hls := hp j s' m' rfl hg'
              subst hls
              clear hg hp hz hg' hok k1 k2
              go_wp2
              (go_quiet ((go_at_call 54; exact Calls.quiet_of_same (((within_any _ _ _ _).mono fun _ _ h => ⟨h.1, h.2.symm⟩)))))
              go_wp2
              go_ret
              exact ⟨ret_int (by rw [HF.out]), by (repeat (first | exact Bel.refl _ | assumption | refine Bel.drew ?_ | refine Bel.drewN ?_ _ | refine Bel.alloc ?_ _ | refine Bel.setCell ?_ (by first | omega | (simp; done) | (simp; omega) | (simp at *; omega)) _ | refine Bel.trans ?_ (by assumption)))⟩
            · have g2 : within m 1 100 = false := within_no.2 k2
              clear hg hp hz hok k1 k2
              go_wp2
              (go_quiet ((go_at_call 54; exact Calls.quiet_of_same (((within_any _ _ _ _).mono fun _ _ h => ⟨h.1, h.2.symm⟩)))))
              go_wp2
              go_ret
              exact ⟨ret_int (by rw [HF.out]), by (repeat (first | exact Bel.refl _ | assumption | refine Bel.drew ?_ | refine Bel.drewN ?_ _ | refine Bel.alloc ?_ _ | refine Bel.setCell ?_ (by first | omega | (simp; done) | (simp; omega) | (simp at *; omega)) _ | refine Bel.trans ?_ (by assumption)))⟩
          · have g1 : within s 1 20 = false := within_no.2 k1
            clear hg hp hz hok k1
            go_wp2
            (go_quiet ((go_at_call 54; exact Calls.quiet_of_same (((within_any _ _ _ _).mono fun _ _ h => ⟨h.1, h.2.symm⟩)))))
            go_wp2
            go_ret
            exact ⟨ret_int (by rw [HF.out]), by (repeat (first | exact Bel.refl _ | assumption | refine Bel.drew ?_ | refine Bel.drewN ?_ _ | refine Bel.alloc ?_ _ | refine Bel.setCell ?_ (by first | omega | (simp; done) | (simp; omega) | (simp at *; omega)) _ | refine Bel.trans ?_ (by assumption)))⟩
      · obtain rfl : k = n := by omega
        have HF : Hid (errV gs = 0) := by
          show errV gs = 0
          rw [HE.out, HS.out, List.drop_of_length_le (by rw [Hn.out]; omega)]
          rfl
        clear hz hp
        go_wp2
        go_ret
        exact ⟨ret_int (by rw [HF.out]), hb⟩
end Go.Proofs.Ytmbhhooiaonhjaa

