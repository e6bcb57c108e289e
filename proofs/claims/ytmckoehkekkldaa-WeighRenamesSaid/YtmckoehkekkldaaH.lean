/- Validate of the program. -/
import Derived.Test.YtmckoehkekkldaaG
namespace Go.Proofs.Ytmckoehkekkldaa
open Go.RowKit

theorem okAt_yes {n x : Int} {l : List Int} {k : Nat} (hg : l[k]? = some x) (h0 : 0 ≤ x) (h1 : x < n) (h2 : k = 0 ∨ ∃ y, l[k - 1]? = some y ∧ y < x) : okAt n l k = true := by
  unfold okAt
  rw [getD_of hg, decide_eq_true h0, decide_eq_true h1]
  rcases h2 with rfl | ⟨y, hy, hl⟩
  · rfl
  · rw [getD_of hy, decide_eq_true hl]
    simp
theorem okAt_no {n x : Int} {l : List Int} {k : Nat} (hg : l[k]? = some x) (h : x < 0 ∨ n ≤ x ∨ (k ≠ 0 ∧ ∃ y, l[k - 1]? = some y ∧ x ≤ y)) : okAt n l k = false := by
  unfold okAt
  rw [getD_of hg]
  rcases h with h | h | ⟨h0, y, hy, h⟩
  · rw [decide_eq_false (by omega)]; rfl
  · rw [decide_eq_false (show ¬ x < n by omega)]; simp
  · rw [getD_of hy, decide_eq_false h0, decide_eq_false (show ¬ y < x by omega)]; simp

set_option maxHeartbeats 1000000 in
theorem isSet_any (A : Option Addr) (m c : Nat) (l : List Int) (n : Int) (w : World) (hR : Ints w A l) (hm : l.length = m) (hmax : m ≤ maxLen) :
    Calls Try.prog 106 #[.slice A m c, .int .i64 n] w fun e w' => e = .returned (.bool (setB n l)) ∧ w = w' := by
  have Hm := Lib.hid hm
  have h63 : (m : Int) ≤ 9223372036854775807 := by unfold maxLen at hmax; omega
  clear hm hmax
  go_enter Try.func106, Try.ntmps106
  go_wp2
  go_loop [5, 6, 9] (fun _ _ i => ∃ k : Nat, k ≤ m ∧ i = .int .i64 k ∧ setTo n l k = true) (fun _ _ i => m - (intOf i).toNat)
  case atStart => exact ⟨0, Nat.zero_le _, rfl, rfl⟩
  case round =>
    obtain ⟨k, hk, rfl, hall⟩ := hrel
    have HA := Lib.hid hall
    clear hall
    by_cases hlt : k < m
    · obtain ⟨b, o, x, rfl, hbl, hg, hc⟩ := hR.at_ (k := k) (by rw [Hm.out]; exact hlt)
      have HG := Lib.hid hg
      have hki : (k : Int) < (m : Int) := by omega
      clear hg
      by_cases h0 : x < 0
      · have HN := Lib.hid (setB_no (by rw [Hm.out]; exact hlt) (okAt_no (n := n) HG.out (.inl h0)))
        go_wp2
        go_ret
        exact ⟨ret_bool HN.out.symm, rfl⟩
      · by_cases h1 : x ≥ n
        · have HN := Lib.hid (setB_no (by rw [Hm.out]; exact hlt) (okAt_no (n := n) HG.out (.inr (.inl h1))))
          go_wp2
          go_ret
          exact ⟨ret_bool HN.out.symm, rfl⟩
        · rcases k with _ | j
          · have HS := Lib.hid (setTo_succ HA.out (okAt_yes (n := n) HG.out (by omega) (by omega) (.inl rfl)))
            rw [Nat.add_zero] at hc
            go_wp2
            go_round
            case rel => exact ⟨1, by omega, by go_num, HS.out⟩
            case measure => simp [intOf]; omega
          · obtain ⟨b', o', y, hA, hbl', hg', hc'⟩ := hR.at_ (k := j) (by rw [Hm.out]; omega)
            obtain ⟨rfl, rfl⟩ : b = b' ∧ o = o' := by simpa using hA
            have HG' := Lib.hid hg'
            clear hg'
            have hj0 : ((j + 1 : Nat) : Int) > 0 := by omega
            have hjm : ((j + 1 : Nat) : Int) - 1 = (j : Int) := by omega
            have hjl : (j : Int) < (m : Int) := by omega
            by_cases h2 : x ≤ y
            · have HN := Lib.hid (setB_no (by rw [Hm.out]; exact hlt) (okAt_no (n := n) HG.out (.inr (.inr ⟨by omega, y, HG'.out, h2⟩))))
              go_wp2
              go_ret
              exact ⟨ret_bool HN.out.symm, rfl⟩
            · have HS := Lib.hid (setTo_succ HA.out (okAt_yes (n := n) HG.out (by omega) (by omega) (.inr ⟨y, HG'.out, by omega⟩)))
              go_wp2
              go_round
              case rel => exact ⟨j + 1 + 1, by omega, by go_num, HS.out⟩
              case measure => simp [intOf]; omega
    · obtain rfl : k = m := by omega
      have HX : Hid (setB n l = true) := by
        have := HA.out
        rw [← Hm.out] at this
        exact this
      clear HA
      go_wp2
      go_ret
      exact ⟨ret_bool HX.out.symm, rfl⟩
end Go.Proofs.Ytmckoehkekkldaa
