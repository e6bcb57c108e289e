/- Lists compared; long records; Against. -/
import Derived.Test.YtmklpldmgmjlkaaKJ
namespace Go.Proofs.Ytmklpldmgmjlkaa
open Go.RowKit

set_option maxRecDepth 100000 in
set_option maxHeartbeats 1000000 in
theorem sameInts_any (A B : Option Addr) (n c m d : Nat) (l : List Int) (w : World) (hA : Ints w A l) (hB : Ints w B l) (hn : l.length = n) (hm : l.length = m) (hmax : n ≤ maxLen) :
    Calls Try.prog 24 #[.slice A n c, .slice B m d] w fun e w' => e = .returned (.bool true) ∧ Bel w w' := by
  obtain rfl : n = m := by omega
  have Hn := Lib.hid hn
  have h63 : (n : Int) ≤ 9223372036854775807 := by unfold maxLen at hmax; omega
  clear hn hm hmax
  go_enter Try.func24, Try.ntmps24
  go_wp2
  go_loopw [5] (fun i wr => ∃ k : Nat, k ≤ n ∧ i = .int .i64 k ∧ Bel w wr) (fun i _ => n - (intOf i).toNat)
  case atStart => exact ⟨0, Nat.zero_le _, rfl, Bel.refl _⟩
  case round =>
    obtain ⟨k, hk, rfl, hb⟩ := hrel
    by_cases hlt : k < n
    · obtain ⟨b, o, s, rfl, hbl, hg, hc1⟩ := (hA.bel hb).at_ (k := k) (by rw [Hn.out]; exact hlt)
      obtain ⟨b', o', s', rfl, hbl', hg', hc1'⟩ := (hB.bel hb).at_ (k := k) (by rw [Hn.out]; exact hlt)
      rw [hg] at hg'
      injection hg' with hg'
      subst hg'
      have hkn : (k : Int) < (n : Int) := by omega
      have hk0 : (0 : Int) ≤ (k : Int) := by omega
      clear hg
      go_wp2
      go_quiet (fail)
      go_wp2
      go_roundw
      case rel => exact ⟨k + 1, by omega, by go_num, by (repeat (first | exact Bel.refl _ | assumption | refine Bel.drew ?_ | refine Bel.drewN ?_ _ | refine Bel.alloc ?_ _ | refine Bel.setCell ?_ (by first | omega | (simp; done) | (simp; omega) | (simp at *; omega)) _ | refine Bel.trans ?_ (by assumption)))⟩
      case measure => simp [intOf]; omega
    · obtain rfl : k = n := by omega
      go_wp2
      go_ret
      exact ⟨rfl, hb⟩
/-- Is a record long? -/
def longB (L : List An) : Bool := decide (100 < L.length) || L.any fun a => decide (100 < a.1.length)
theorem longB_drop {L : List An} {ns : List Int} {y : Bool} {k : Nat} (hg : L[k]? = some (ns, y)) : ((L.drop k).any fun a => decide (100 < a.1.length)) = (decide (100 < ns.length) || (L.drop (k + 1)).any fun a => decide (100 < a.1.length)) := by
  rw [drop_at hg]; rfl
set_option maxHeartbeats 1000000 in
theorem long_any (A : Option Addr) (n c : Nat) (L : List An) (w : World) (hR : Ans w A L) (hn : L.length = n) (hmax : n ≤ maxLen) :
    Calls Try.prog 9 #[.slice A n c] w fun e w' => e = .returned (.bool (longB L)) ∧ w = w' := by
  have Hn := Lib.hid hn
  have h63 : (n : Int) ≤ 9223372036854775807 := by unfold maxLen at hmax; omega
  clear hn hmax
  by_cases h100 : 100 < n
  · have HE : Hid (longB L = true) := by show _ = _; unfold longB; rw [decide_eq_true (by rw [Hn.out]; exact h100)]; rfl
    go_enter Try.func9, Try.ntmps9
    go_wp2
    go_ret
    exact ⟨ret_bool HE.out.symm, rfl⟩
  · have HE : Hid (longB L = L.any fun a => decide (100 < a.1.length)) := by show _ = _; unfold longB; rw [decide_eq_false (by rw [Hn.out]; exact h100)]; rfl
    go_enter Try.func9, Try.ntmps9
    go_wp2
    go_loop [3] (fun i => ∃ k : Nat, k ≤ n ∧ i = .int .i64 k ∧ ((L.drop k).any fun a => decide (100 < a.1.length)) = longB L) (fun i => n - (intOf i).toNat)
    case atStart => exact ⟨0, Nat.zero_le _, rfl, HE.out.symm⟩
    case round =>
      obtain ⟨k, hk, rfl, hs⟩ := hrel
      have HS := Lib.hid hs
      clear hs
      by_cases hlt : k < n
      · obtain ⟨b, o, ns, y, A', n', c', rfl, hbl, hgk, hc1, hc2, hI, hn', hm'⟩ := hR.at_ (k := k) (by rw [Hn.out]; exact hlt)
        have HG := Lib.hid (longB_drop hgk)
        have HN' := Lib.hid hn'
        clear hgk hn' hm' hI
        by_cases hl : 100 < n'
        · have HF : Hid (longB L = true) := by show _ = _; rw [← HS.out, HG.out, decide_eq_true (by rw [HN'.out]; exact hl)]; rfl
          go_wp2
          go_ret
          exact ⟨ret_bool HF.out.symm, rfl⟩
        · have HF : Hid (((L.drop (k + 1)).any fun a => decide (100 < a.1.length)) = longB L) := by show _ = _; rw [← HS.out, HG.out, decide_eq_false (by rw [HN'.out]; exact hl)]; simp
          go_wp2
          go_round
          case rel => exact ⟨k + 1, by omega, by go_num, HF.out⟩
          case measure => simp [intOf]; omega
      · obtain rfl : k = n := by omega
        have HF : Hid (longB L = false) := by show _ = _; rw [← HS.out, List.drop_of_length_le (by rw [Hn.out]; omega)]; rfl
        go_wp2
        go_ret
        exact ⟨ret_bool HF.out.symm, rfl⟩
/-- A new slice of integers, and OK. -/
def NewsOk (w : World) (l : List Int) (e : Ending) (w' : World) : Prop := ∃ A n c, e = .returned (.tuple #[.slice A n c, .int .i64 0]) ∧ n = l.length ∧ Bel w w' ∧ Ints w' A l
theorem wAgainst_err (g : Int) (A : Option Addr) (n c : Nat) (L : List An) (w : World) (hR : Ans w A L) (hn : L.length = n) (hmax : n ≤ maxLen) (he : errA g L ≠ 0) :
    Calls Try.prog 14 #[.int .i64 g, .slice A n c] w fun e w' => e = .returned (.tuple #[.slice none 0 0, .int .i64 (errA g L)]) ∧ Bel w w' := by
  have hne : (errA g L != 0) = true := by simpa using he
  go_enter Try.func14, Try.ntmps14
  go_wp2_with fail
  refine (validate_any g A n c L _ hR hn hmax).mono ?_
  rintro e w1 ⟨rfl, hb1⟩
  go_wp2
  go_ret2
  exact ⟨rfl, hb1⟩
theorem wAgainst_ok (g : Nat) (A : Option Addr) (n c : Nat) (L : List An) (w : World) (hR : Ans w A L) (hn : L.length = n) (hmax : n ≤ maxLen) (he : errA (g : Int) L = 0) :
    Calls Try.prog 14 #[.int .i64 (g : Int), .slice A n c] w (NewsOk w (countL L g)) := by
  obtain ⟨⟨g1, g2⟩, h12, _⟩ := errA_zero he
  rw [hn] at h12
  have HE := Lib.hid he
  have Hn := Lib.hid hn; have HX := Lib.hid hmax
  clear he hn hmax
  go_enter Try.func14, Try.ntmps14
  go_wp2_with fail
  refine (validate_any g A n c L _ hR Hn.out HX.out).mono ?_
  rintro e w1 ⟨rfl, hb1⟩
  rw [HE.out]
  go_wp2_with fail
  refine (against_any g A n c L _ (hR.bel hb1) Hn.out h12 (by omega)).mono ?_
  rintro e w2 ⟨b, rfl, hbw, hb2, hr2⟩
  have HI := Lib.hid hr2.ints
  clear hr2
  go_wp2
  go_ret2
  exact ⟨_, _, _, rfl, (countL_length L g).symm, hb1.trans hb2, HI.out⟩
end Go.Proofs.Ytmklpldmgmjlkaa

