/- The known answers. -/
import Derived.Test.YtmckoehkekkldaaQ
namespace Go.Proofs.Ytmckoehkekkldaa
open Go.RowKit

set_option maxRecDepth 100000 in
set_option maxHeartbeats 1000000 in
theorem sameLists_any (lo lo' : Nat) (A B : Option Addr) (n c m d : Nat) (T : List (List Int)) (w : World) (hA : Tab lo w A T) (hB : Tab lo' w B T) (hn : T.length = n) (hm : T.length = m) (hmax : n ≤ maxLen) :
    Calls Try.prog 52 #[.slice A n c, .slice B m d] w fun e w' => e = .returned (.bool true) ∧ Bel w w' := by
  obtain rfl : n = m := by omega
  have Hn := Lib.hid hn
  have h63 : (n : Int) ≤ 9223372036854775807 := by unfold maxLen at hmax; omega
  clear hn hm hmax
  go_enter Try.func52, Try.ntmps52
  go_wp2
  go_loopw [5] (fun i wr => ∃ k : Nat, k ≤ n ∧ i = .int .i64 k ∧ Bel w wr) (fun i _ => n - (intOf i).toNat)
  case atStart => exact ⟨0, Nat.zero_le _, rfl, Bel.refl _⟩
  case round =>
    obtain ⟨k, hk, rfl, hb⟩ := hrel
    by_cases hlt : k < n
    · obtain ⟨b, o, ns, A1, n1, c1, rfl, hbl, hg, q1, hI, hl1, hx1⟩ := (hA.bel hb).at_ (k := k) (by rw [Hn.out]; exact hlt)
      obtain ⟨b', o', ns', A2, n2, c2, rfl, hbl', hg', q2, hJ, hl2, hx2⟩ := (hB.bel hb).at_ (k := k) (by rw [Hn.out]; exact hlt)
      rw [hg] at hg'
      injection hg' with hg'
      subst hg'
      have HL1 := Lib.hid hl1; have HL2 := Lib.hid hl2
      have hkn : (k : Int) < (n : Int) := by omega
      have hk0 : (0 : Int) ≤ (k : Int) := by omega
      clear hg hl1 hl2
      go_wp2
      go_region_with (first | (go_at_call 45; refine (sameInts_any A1 A2 n1 c1 n2 c2 ns _ (hI.bel (by (repeat (first | exact Bel.refl _ | assumption | refine Bel.drew ?_ | refine Bel.drewN ?_ _ | refine Bel.alloc ?_ _ | refine Bel.setCell ?_ (by first | omega | (simp; done) | (simp; omega) | (simp at *; omega)) _ | refine Bel.trans ?_ (by assumption))))) (hJ.bel (by (repeat (first | exact Bel.refl _ | assumption | refine Bel.drew ?_ | refine Bel.drewN ?_ _ | refine Bel.alloc ?_ _ | refine Bel.setCell ?_ (by first | omega | (simp; done) | (simp; omega) | (simp at *; omega)) _ | refine Bel.trans ?_ (by assumption))))) HL1.out HL2.out hx1).mono ?_; rintro e w1 ⟨rfl, hb1⟩))
      all_goals
        go_wp2
        go_roundw
        case rel => exact ⟨k + 1, by omega, by go_num, by (repeat (first | exact Bel.refl _ | assumption | refine Bel.drew ?_ | refine Bel.drewN ?_ _ | refine Bel.alloc ?_ _ | refine Bel.setCell ?_ (by first | omega | (simp; done) | (simp; omega) | (simp at *; omega)) _ | refine Bel.trans ?_ (by assumption)))⟩
        case measure => simp [intOf]; omega
    · obtain rfl : k = n := by omega
      go_wp2
      go_ret
      exact ⟨rfl, hb⟩
/-- The chapter's example. -/
def exP : List Wg := [([0], [1]), ([1], [2])]
theorem exP_good : Good 3 exP := by
  obtain ⟨m, hm, hG⟩ := errV_good (n := 3) (P := exP) (by decide)
  obtain rfl : m = 3 := by omega
  exact hG
theorem exP_marks : marksT exP 3 = [[1, 0], [-1, 1], [0, -1]] := by decide
theorem exP_tells : tellV exP 3 = true := by decide
theorem exP_err : errV 3 exP = 0 := by decide
theorem ints_lit {w w' : World} {x : Int} {t : TypeId} (h : Bel (w.alloc (.cells #[.int .i64 x] t)) w') : Ints w' (some ⟨w.heap.size, 0, none⟩) [x] := by
  refine Ints.bel (.inr ⟨_, 0, rfl, by simp, fun j v hj => ?_⟩) h
  match j, hj with
  | 0, hj => simp at hj; subst hj; simp
theorem example_any (w : World) : Calls Try.prog 65 #[] w fun e w' => ∃ g, e = .returned (.slice (some ⟨g, 0, none⟩) 2 2) ∧ Bel w w' ∧ Plan w.heap.size w' (some ⟨g, 0, none⟩) exP := by
  go_enter Try.func65, Try.ntmps65
  go_wp2
  go_ret
  refine ⟨_, rfl, by (repeat (first | exact Bel.refl _ | assumption | refine Bel.drew ?_ | refine Bel.drewN ?_ _ | refine Bel.alloc ?_ _ | refine Bel.setCell ?_ (by first | omega | (simp; done) | (simp; omega) | (simp at *; omega)) _ | refine Bel.trans ?_ (by assumption))), .inr ⟨_, 0, rfl, by omega, by simp, fun j l r hj => ?_⟩⟩
  match j, hj with
  | 0, hj =>
    simp [exP] at hj
    obtain ⟨rfl, rfl⟩ := hj
    refine ⟨_, 1, 1, _, 1, 1, by go_simp, by go_simp, ints_lit (w := w) (by (repeat (first | exact Bel.refl _ | assumption | refine Bel.drew ?_ | refine Bel.drewN ?_ _ | refine Bel.alloc ?_ _ | refine Bel.setCell ?_ (by first | omega | (simp; done) | (simp; omega) | (simp at *; omega)) _ | refine Bel.trans ?_ (by assumption)))), rfl, by decide, fun b' o' e => ?_, ints_lit (w := w.alloc _) (by (repeat (first | exact Bel.refl _ | assumption | refine Bel.drew ?_ | refine Bel.drewN ?_ _ | refine Bel.alloc ?_ _ | refine Bel.setCell ?_ (by first | omega | (simp; done) | (simp; omega) | (simp at *; omega)) _ | refine Bel.trans ?_ (by assumption)))), rfl, by decide, fun b' o' e => ?_⟩
    · cases e
      exact Nat.le_refl _
    · cases e
      simp
  | 1, hj =>
    simp [exP] at hj
    obtain ⟨rfl, rfl⟩ := hj
    refine ⟨_, 1, 1, _, 1, 1, by go_simp, by go_simp, ints_lit (w := (w.alloc _).alloc _) (by (repeat (first | exact Bel.refl _ | assumption | refine Bel.drew ?_ | refine Bel.drewN ?_ _ | refine Bel.alloc ?_ _ | refine Bel.setCell ?_ (by first | omega | (simp; done) | (simp; omega) | (simp at *; omega)) _ | refine Bel.trans ?_ (by assumption)))), rfl, by decide, fun b' o' e => ?_, ints_lit (w := ((w.alloc _).alloc _).alloc _) (by (repeat (first | exact Bel.refl _ | assumption | refine Bel.drew ?_ | refine Bel.drewN ?_ _ | refine Bel.alloc ?_ _ | refine Bel.setCell ?_ (by first | omega | (simp; done) | (simp; omega) | (simp at *; omega)) _ | refine Bel.trans ?_ (by assumption)))), rfl, by decide, fun b' o' e => ?_⟩
    · cases e
      simp; omega
    · cases e
      simp; omega
  | j + 2, hj => simp [exP] at hj
end Go.Proofs.Ytmckoehkekkldaa
