/- Two slices of pairs compared. -/
import Derived.Test.YtmbhhooiaonhjaaG
namespace Go.Proofs.Ytmbhhooiaonhjaa
open Go.RowKit

theorem ret_bool {a b : Bool} (h : a = b) : Ending.returned (.bool a) = .returned (.bool b) := by rw [h]

def same (xs ys : List (Int × Int)) : Bool := decide (xs = ys)
theorem same_len {xs ys : List (Int × Int)} (h : xs.length ≠ ys.length) : same xs ys = false := by
  simp only [same, decide_eq_false_iff_not]
  rintro rfl
  exact h rfl
theorem same_at {xs ys : List (Int × Int)} {k : Nat} {p q : Int × Int} (hp : xs[k]? = some p) (hq : ys[k]? = some q) (h : p ≠ q) : same xs ys = false := by
  simp only [same, decide_eq_false_iff_not]
  rintro rfl
  rw [hp] at hq
  injection hq with hq
  exact h hq
theorem same_end {xs ys : List (Int × Int)} {n : Nat} (h1 : xs.length = n) (h2 : ys.length = n) (h : xs.take n = ys.take n) : same xs ys = true := by
  rw [List.take_of_length_le (by omega), List.take_of_length_le (by omega)] at h
  simp [same, h]

set_option maxHeartbeats 400000 in
theorem sameRats_any (A B : Option Addr) (n c n' c' : Nat) (xs ys : List (Int × Int)) (w : World) (hA : Prs w A xs) (hB : Prs w B ys) (hn : xs.length = n) (hn' : ys.length = n') (hmax : n ≤ maxLen) (hmax' : n' ≤ maxLen) :
    Calls Try.prog 24 #[.slice A n c, .slice B n' c'] w fun e w' => e = .returned (.bool (same xs ys)) ∧ Bel w w' := by
  unfold maxLen at hmax hmax'
  by_cases hl : n = n'
  · subst hl
    have Hn := Lib.hid hn; clear hn
    have Hn' := Lib.hid hn'; clear hn'
    go_enter Try.func24, Try.ntmps24
    go_wp2
    go_loopw [5] (fun i wr => ∃ k : Nat, k ≤ n ∧ i = .int .i64 k ∧ Bel w wr ∧ xs.take k = ys.take k) (fun i _ => n - (intOf i).toNat)
    case atStart => exact ⟨0, Nat.zero_le _, rfl, Bel.refl _, rfl⟩
    case round =>
      obtain ⟨k, hk, rfl, hb, ht⟩ := hrel
      have HT := Lib.hid ht; clear ht
      by_cases hlt : k < n
      · obtain ⟨b, o, s, m, rfl, hbl, hg, hc1, hc2⟩ := (hA.bel hb).at_ (k := k) (by rw [Hn.out]; exact hlt)
        obtain ⟨b', o', s', m', rfl, hbl', hg', hc1', hc2'⟩ := (hB.bel hb).at_ (k := k) (by rw [Hn'.out]; exact hlt)
        have hkn : (k : Int) < (n : Int) := by omega
        have hk0 : (0 : Int) ≤ (k : Int) := by omega
        by_cases he : s = s' ∧ m = m'
        · obtain ⟨rfl, rfl⟩ := he
          have HF : Hid (xs.take (k + 1) = ys.take (k + 1)) := by
            show _ = _
            rw [take_at hg, take_at hg', HT.out]
          clear hg hg'
          go_wp2
          go_quiet (fail)
          go_wp2
          go_roundw
          case rel => exact ⟨k + 1, by omega, by go_num, by (repeat (first | exact Bel.refl _ | assumption | refine Bel.drew ?_ | refine Bel.drewN ?_ _ | refine Bel.alloc ?_ _ | refine Bel.setCell ?_ (by first | omega | (simp; done) | (simp; omega) | (simp at *; omega)) _ | refine Bel.trans ?_ (by assumption))), HF.out⟩
          case measure => simp [intOf]; omega
        · have HF : Hid (same xs ys = false) := same_at hg hg' (fun e => he (by injection e with a b; exact ⟨a, b⟩))
          clear hg hg'
          by_cases hs : s = s'
          · subst hs
            have hd : (m == m') = false := by simpa using he
            clear he
            go_wp2
            go_quiet (fail)
            go_wp2
            go_ret
            exact ⟨ret_bool HF.out.symm, by (repeat (first | exact Bel.refl _ | assumption | refine Bel.drew ?_ | refine Bel.drewN ?_ _ | refine Bel.alloc ?_ _ | refine Bel.setCell ?_ (by first | omega | (simp; done) | (simp; omega) | (simp at *; omega)) _ | refine Bel.trans ?_ (by assumption)))⟩
          · have hd : (s == s') = false := by simpa using hs
            clear he hs
            go_wp2
            go_quiet (fail)
            go_wp2
            go_ret
            exact ⟨ret_bool HF.out.symm, by (repeat (first | exact Bel.refl _ | assumption | refine Bel.drew ?_ | refine Bel.drewN ?_ _ | refine Bel.alloc ?_ _ | refine Bel.setCell ?_ (by first | omega | (simp; done) | (simp; omega) | (simp at *; omega)) _ | refine Bel.trans ?_ (by assumption)))⟩
      · obtain rfl : k = n := by omega
        have HF : Hid (same xs ys = true) := same_end Hn.out Hn'.out HT.out
        go_wp2
        go_ret
        exact ⟨ret_bool HF.out.symm, hb⟩
  · have HF : Hid (same xs ys = false) := same_len (by rw [hn, hn']; exact hl)
    have hne : ((n : Int) != (n' : Int)) = true := by rw [bne_iff_ne]; omega
    clear hn hn'
    go_enter Try.func24, Try.ntmps24
    go_wp2
    go_ret
    exact ⟨ret_bool HF.out.symm, Bel.refl _⟩
end Go.Proofs.Ytmbhhooiaonhjaa

