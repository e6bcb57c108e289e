/- The document's within, isSet, has. -/
import Derived.Test.YtmckoehkekkldaaS
import Derived.BigQuiet
namespace Go.Proofs.Ytmckoehkekkldaa
open Go.RowKit

theorem within_yes (n lo hi : Int) (w : World) (h : lo ≤ n ∧ n ≤ hi) : Calls Try.prog 83 #[.int .i64 n, .int .i64 lo, .int .i64 hi] w fun e w' => e = .returned (.bool true) ∧ w = w' := by
  obtain ⟨h1, h2⟩ := h
  go_enter Try.func83, Try.ntmps83
  go_wp2
  go_ret
  exact ⟨rfl, rfl⟩
theorem within_no (n lo hi : Int) (w : World) (h : ¬ (lo ≤ n ∧ n ≤ hi)) : Calls Try.prog 83 #[.int .i64 n, .int .i64 lo, .int .i64 hi] w fun e w' => e = .returned (.bool false) ∧ w = w' := by
  by_cases h1 : lo ≤ n
  · have h2 : ¬ n ≤ hi := fun h2 => h ⟨h1, h2⟩
    clear h
    go_enter Try.func83, Try.ntmps83
    go_wp2
    go_ret
    exact ⟨rfl, rfl⟩
  · clear h
    go_enter Try.func83, Try.ntmps83
    go_wp2
    go_ret
    exact ⟨rfl, rfl⟩
theorem within_any (n lo hi : Int) (w : World) : Calls Try.prog 83 #[.int .i64 n, .int .i64 lo, .int .i64 hi] w fun e w' => e = .returned (.bool (decide (lo ≤ n ∧ n ≤ hi))) ∧ w = w' := by
  by_cases h : lo ≤ n ∧ n ≤ hi
  · rw [decide_eq_true h]
    exact within_yes n lo hi w h
  · rw [decide_eq_false h]
    exact within_no n lo hi w h
set_option maxHeartbeats 400000 in
theorem rHas_any (A : Option Addr) (n c : Nat) (ns : List Int) (v : Int) (w : World) (hR : Ints w A ns) (hn : ns.length = n) (hmax : n ≤ maxLen) :
    Calls Try.prog 85 #[.slice A n c, .int .i64 v] w fun e w' => e = .returned (.bool (hasB ns v)) ∧ w = w' := by
  have Hn := Lib.hid hn
  have hm : (n : Int) ≤ 9223372036854775807 := by unfold maxLen at hmax; omega
  clear hn hmax
  go_enter Try.func85, Try.ntmps85
  go_wp2
  go_loop [5] (fun i => ∃ k : Nat, k ≤ n ∧ i = .int .i64 k ∧ Before ns v k) (fun i => n - (intOf i).toNat)
  case atStart => exact ⟨0, Nat.zero_le _, rfl, fun j u hj => by omega⟩
  case round =>
    obtain ⟨k, hk, rfl, hb⟩ := hrel
    have HB := Lib.hid hb
    clear hb
    by_cases hlt : k < n
    · obtain ⟨b, o, x, rfl, hbl, hg, hc1⟩ := hR.at_ (k := k) (by rw [Hn.out]; exact hlt)
      have HG := Lib.hid hg
      clear hg
      by_cases hx : x = v
      · subst hx
        have HT := Lib.hid (hasB_iff.2 (List.mem_of_getElem? HG.out))
        go_wp2
        go_ret
        exact ⟨ret_bool HT.out.symm, rfl⟩
      · have hxv : (x == v) = false := by simpa using hx
        have HX := Lib.hid hx
        clear hx
        go_wp2
        go_round
        case rel => exact ⟨k + 1, by omega, by go_num, fun j u hj hu => by
          rcases (by omega : j < k ∨ j = k) with h | rfl
          · exact HB.out j u h hu
          · rw [HG.out] at hu; injection hu with hu; rw [← hu]; exact HX.out⟩
        case measure => simp [intOf]; omega
    · obtain rfl : k = n := by omega
      have HT := Lib.hid (hasB_false (fun j u hu => HB.out j u (by rw [← Hn.out]; exact (List.getElem?_eq_some_iff.1 hu).1) hu))
      go_wp2
      go_ret
      exact ⟨ret_bool HT.out.symm, rfl⟩
set_option maxRecDepth 100000 in
set_option maxHeartbeats 1000000 in
theorem rIsSet_any (A : Option Addr) (n c : Nat) (l : List Int) (g : Int) (w : World) (hR : Ints w A l) (hn : l.length = n) (hmax : n ≤ maxLen) (g1 : 1 ≤ g) (g2 : g ≤ 13) :
    Calls Try.prog 84 #[.slice A n c, .int .i64 g] w fun e w' => e = .returned (.bool (setB g l)) ∧ Bel w w' := by
  have Hn := Lib.hid hn
  have hm : (n : Int) ≤ 9223372036854775807 := by unfold maxLen at hmax; omega
  clear hn hmax
  go_enter Try.func84, Try.ntmps84
  go_wp2
  go_loopw [5] (fun i wr => ∃ k : Nat, k ≤ n ∧ i = .int .i64 k ∧ Bel w wr ∧ setTo g l k = true) (fun i _ => n - (intOf i).toNat)
  case atStart => exact ⟨0, Nat.zero_le _, rfl, Bel.refl _, rfl⟩
  case round =>
    obtain ⟨k, hk, rfl, hb, hall⟩ := hrel
    have HA := Lib.hid hall
    clear hall
    by_cases hlt : k < n
    · have hR2 := hR.bel hb
      obtain ⟨b, o, x, rfl, hbl, hg, hc1⟩ := hR2.at_ (k := k) (by rw [Hn.out]; exact hlt)
      have HG := Lib.hid hg
      have hkn : (k : Int) < (n : Int) := by omega
      clear hg
      have WG : IntKind.i64.wrap (g - 1) = g - 1 := IntWalk.i64_in _ (by omega)
      by_cases hw : 0 ≤ x ∧ x ≤ g - 1
      · have HW := Lib.hid hw
        obtain ⟨w1, w2⟩ := hw
        rcases k with _ | p
        · have hdk : decide (0 < ((0 : Nat) : Int)) = false := rfl
          have HS := Lib.hid (setTo_succ HA.out (okAt_yes (n := g) HG.out (by omega) (by omega) (.inl rfl)))
          rw [Nat.add_zero] at hc1
          go_wp2
          go_quiet ((go_at_call 83; exact Calls.quiet_of_same ((within_yes _ _ _ _ HW.out).mono fun _ _ h => ⟨h.1, h.2.symm⟩)))
          go_wp2
          go_roundw
          case rel => exact ⟨1, by omega, by go_num, by (repeat (first | exact Bel.refl _ | assumption | refine Bel.drew ?_ | refine Bel.drewN ?_ _ | refine Bel.alloc ?_ _ | refine Bel.setCell ?_ (by first | omega | (simp; done) | (simp; omega) | (simp at *; omega)) _ | refine Bel.trans ?_ (by assumption))), HS.out⟩
          case measure => simp [intOf]; omega
        · obtain ⟨b', o', y, hA', hbl', hg', hc1'⟩ := hR2.at_ (k := p) (by rw [Hn.out]; omega)
          obtain ⟨rfl, rfl⟩ : b = b' ∧ o = o' := by simpa using hA'
          have HG' := Lib.hid hg'
          clear hg' hA'
          have hpk : ((p + 1 : Nat) : Int) - 1 = (p : Int) := by omega
          have hp0 : (0 : Int) < ((p + 1 : Nat) : Int) := by omega
          have hpn : (p : Int) < (n : Int) := by omega
          have W1 : IntKind.i64.wrap (((p + 1 : Nat) : Int) - 1) = (p : Int) := by rw [hpk]; exact IntWalk.i64_in _ (by omega)
          by_cases h1 : x ≤ y
          · have HS := Lib.hid (setB_no (by rw [Hn.out]; exact hlt) (okAt_no (n := g) HG.out (.inr (.inr ⟨by omega, y, HG'.out, h1⟩))))
            go_wp2
            go_quiet ((go_at_call 83; exact Calls.quiet_of_same ((within_yes _ _ _ _ HW.out).mono fun _ _ h => ⟨h.1, h.2.symm⟩)))
            go_wp2
            go_ret
            exact ⟨ret_bool HS.out.symm, by (repeat (first | exact Bel.refl _ | assumption | refine Bel.drew ?_ | refine Bel.drewN ?_ _ | refine Bel.alloc ?_ _ | refine Bel.setCell ?_ (by first | omega | (simp; done) | (simp; omega) | (simp at *; omega)) _ | refine Bel.trans ?_ (by assumption)))⟩
          · have HS := Lib.hid (setTo_succ HA.out (okAt_yes (n := g) HG.out (by omega) (by omega) (.inr ⟨y, HG'.out, by omega⟩)))
            go_wp2
            go_quiet ((go_at_call 83; exact Calls.quiet_of_same ((within_yes _ _ _ _ HW.out).mono fun _ _ h => ⟨h.1, h.2.symm⟩)))
            go_wp2
            go_roundw
            case rel => exact ⟨p + 1 + 1, by omega, by go_num, by (repeat (first | exact Bel.refl _ | assumption | refine Bel.drew ?_ | refine Bel.drewN ?_ _ | refine Bel.alloc ?_ _ | refine Bel.setCell ?_ (by first | omega | (simp; done) | (simp; omega) | (simp at *; omega)) _ | refine Bel.trans ?_ (by assumption))), HS.out⟩
            case measure => simp [intOf]; omega
      · have HW := Lib.hid hw
        have HS := Lib.hid (setB_no (by rw [Hn.out]; exact hlt) (okAt_no (n := g) HG.out (by omega)))
        clear hw
        go_wp2
        go_quiet ((go_at_call 83; exact Calls.quiet_of_same ((within_no _ _ _ _ HW.out).mono fun _ _ h => ⟨h.1, h.2.symm⟩)))
        go_wp2
        go_ret
        exact ⟨ret_bool HS.out.symm, by (repeat (first | exact Bel.refl _ | assumption | refine Bel.drew ?_ | refine Bel.drewN ?_ _ | refine Bel.alloc ?_ _ | refine Bel.setCell ?_ (by first | omega | (simp; done) | (simp; omega) | (simp at *; omega)) _ | refine Bel.trans ?_ (by assumption)))⟩
    · obtain rfl : k = n := by omega
      have HX : Hid (setB g l = true) := by
        have := HA.out
        rw [← Hn.out] at this
        exact this
      go_wp2
      go_ret
      exact ⟨ret_bool HX.out.symm, hb⟩
end Go.Proofs.Ytmckoehkekkldaa
