/- The document's Rename, all that it refuses. -/
import Derived.Test.YtmckoehkekkldaaBI
namespace Go.Proofs.Ytmckoehkekkldaa
open Go.RowKit

set_option maxRecDepth 100000 in
set_option maxHeartbeats 2000000 in
theorem rRename_err (lo : Nat) (n : Int) (A : Option Addr) (m c : Nat) (P : List Wg) (B : Option Addr) (q d : Nat) (to : List Int) (w : World) (hR : Plan lo w A P) (hm : P.length = m) (hJ : Ints w B to) (hq : to.length = q) (hmax : q ≤ maxLen) (hE : errR n P to ≠ 0) :
    Calls Try.prog 73 #[.int .i64 n, .slice A m c, .slice B q d] w fun e w' => e = .returned (.tuple #[.slice none 0 0, .int .i64 (errR n P to)]) ∧ Bel w w' := by
  have Hm := Lib.hid hm; have Hq := Lib.hid hq
  have hmaxi : (q : Int) ≤ 9223372036854775807 := by unfold maxLen at hmax; omega
  by_cases h0 : errV n P = 0
  · obtain ⟨k, rfl, hG⟩ := errV_good h0
    have hK : errR (k : Int) P to = 1 := by
      unfold errR at hE ⊢
      rw [if_pos h0] at hE ⊢
      split at hE
      · exact absurd rfl hE
      · rename_i h
        rw [if_neg h]
    have HE := Lib.hid h0
    have hn13 := hG.le
    have hnr : ¬ Renum k to := fun h => by
      unfold errR at hE
      rw [if_pos h0, if_pos (by simpa using h)] at hE
      exact hE rfl
    rw [hK]
    by_cases hqk : q = k
    · subst hqk
      have HNR := Lib.hid (show ¬ ∀ i : Nat, i < q → (i : Int) ∈ to from fun h => hnr ⟨hq, h⟩)
      have hnn : ((q : Int) != (q : Int)) = false := by simp
      clear hm hq hG hnr hE hK h0
      go_enter Try.func73, Try.ntmps73
      go_wp2_with fail
      refine (rValidate_any lo _ A m c P _ hR Hm.out).mono ?_
      rintro e w1 ⟨rfl, hb1⟩
      rw [HE.out]
      have hJ1 := hJ.bel hb1
      go_wp2
      go_loop [9] (fun i => ∃ k : Nat, k ≤ q ∧ i = .int .i64 k ∧ ∀ j : Nat, j < k → (j : Int) ∈ to) (fun i => q - (intOf i).toNat)
      case atStart => exact ⟨0, Nat.zero_le _, rfl, fun j hj => by omega⟩
      case round =>
        obtain ⟨k, hk, rfl, hz⟩ := hrel
        have HZ := Lib.hid hz
        clear hz
        by_cases hlt : k < q
        · have hki : (k : Int) < (q : Int) := by omega
          go_wp2_with fail
          refine (rHas_any B q d to (k : Int) _ hJ1 Hq.out hmax).mono ?_
          rintro e w2 ⟨rfl, rfl⟩
          cases hh : hasB to (k : Int)
          · clear hh
            go_wp2
            exact bodyPost_ret (v := .tuple #[.slice none 0 0, .int .i64 1]) (by simp [results, Try.results73, go_sem]) rfl ⟨rfl, hb1⟩
          · have HH := Lib.hid (hasB_iff.1 hh)
            clear hh
            go_wp2
            go_round
            case rel => exact ⟨k + 1, by omega, by go_num, fun j hj => by
              rcases (by omega : j < k ∨ j = k) with h | rfl
              · exact HZ.out j h
              · exact HH.out⟩
            case measure => simp [intOf]; omega
        · obtain rfl : k = q := by omega
          exact absurd HZ.out HNR.out
    · have hnn : ((q : Int) != (k : Int)) = true := by simp; omega
      have hnn' : ¬ (q : Int) = (k : Int) := by omega
      clear hm hq hG hnr hE hK h0
      go_enter Try.func73, Try.ntmps73
      go_wp2_with fail
      refine (rValidate_any lo _ A m c P _ hR Hm.out).mono ?_
      rintro e w1 ⟨rfl, hb1⟩
      rw [HE.out]
      go_wp2
      exact bodyPost_ret (v := .tuple #[.slice none 0 0, .int .i64 1]) (by simp [results, Try.results73, go_sem]) rfl ⟨rfl, hb1⟩
  · have hK : errR n P to = errV n P := by unfold errR; rw [if_neg h0]
    rw [hK]
    have hE' : (errV n P != 0) = true := by simpa using h0
    clear hK hE
    generalize hv : errV n P = v at *
    have HV := Lib.hid hv
    clear hv hm hq
    go_enter Try.func73, Try.ntmps73
    go_wp2_with fail
    refine (rValidate_any lo n A m c P _ hR Hm.out).mono ?_
    rintro e w1 ⟨rfl, hb1⟩
    rw [HV.out]
    go_wp2
    exact bodyPost_ret (v := .tuple #[.slice none 0 0, .int .i64 v]) (by simp [results, Try.results73, go_sem]) rfl ⟨rfl, hb1⟩
end Go.Proofs.Ytmckoehkekkldaa
