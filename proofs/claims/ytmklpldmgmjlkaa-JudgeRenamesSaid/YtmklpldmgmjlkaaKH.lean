/- KeptAnswers. -/
import Derived.Test.YtmklpldmgmjlkaaKG
namespace Go.Proofs.Ytmklpldmgmjlkaa
open Go.RowKit

set_option maxRecDepth 100000 in
set_option maxHeartbeats 4000000 in
theorem keptAnswers_any (A B : Option Addr) (n c n' c' : Nat) (Z : List AnZ) (w : World) (hA : Ans w A (Z.map full)) (hB : AnsZ w B Z) (hc : Z.length = n) (hc' : Z.length = c') (_hn : n' ≤ c') (h0 : B = none → c' = 0) (hmax : c' ≤ 140737488351232) :
    Calls Try.prog 7 #[.slice A n c, .slice B n' c'] w fun e w' => e = .returned (.bool true) ∧ Bel w w' := by
  obtain rfl : n = c' := by omega
  have Hn := Lib.hid hc; clear hc hc'
  have h63 : (n : Int) ≤ 9223372036854775807 := by omega
  clear hmax
  rcases B with _ | ⟨b1, b2, b3⟩
  · have hn0 := h0 rfl
    subst hn0
    obtain rfl : n' = 0 := by omega
    go_enter Try.func7, Try.ntmps7
    go_wp2
    go_loopw [5] (fun i wr => i = .int .i64 0 ∧ Bel w wr) (fun _ _ => 0)
    case atStart => exact ⟨rfl, Bel.refl _⟩
    case round =>
      obtain ⟨rfl, hb⟩ := hrel
      go_wp2
      go_ret
      exact ⟨rfl, hb⟩
  · clear h0
    go_enter Try.func7, Try.ntmps7
    go_wp2
    go_loopw [5] (fun i wr => ∃ k : Nat, k ≤ n ∧ i = .int .i64 k ∧ Bel w wr) (fun i _ => n - (intOf i).toNat)
    case atStart => exact ⟨0, Nat.zero_le _, rfl, Bel.refl _⟩
    case round =>
      obtain ⟨k, hk, rfl, hb⟩ := hrel
      by_cases hlt : k < n
      · obtain ⟨b, o, zs, m, y, B', c', hB', hbl', hg', hc1', hc2', hI', hl', hm', hnn, hre⟩ := hB.at_ (k := k) (by rw [Hn.out]; exact hlt)
        obtain ⟨a, p, ms, y', A', m1, c1, rfl, hbl, hg, hc1, hc2, hI, hm1, hmm⟩ := hA.at_ (k := k) (by rw [List.length_map, Hn.out]; exact hlt)
        rw [List.getElem?_map, hg'] at hg
        simp only [Option.map_some, full, Option.some.injEq, Prod.mk.injEq] at hg
        obtain ⟨rfl, rfl⟩ := hg
        injection hB' with hB'
        injection hB' with e1 e2 e3
        subst e1 e2 e3
        have hkn : (k : Int) < (n : Int) := by omega
        have hk0 : (0 : Int) ≤ (k : Int) := by omega
        have held : ∀ w', Bel w w' → (w'.cell? ⟨b1, b2 + k * 2, none⟩ = some (.slice B' m c') ∧ w'.cell? ⟨b1, b2 + k * 2 + 1, none⟩ = some (.bool y)) ∧ w'.cell? ⟨a, p + k * 2, none⟩ = some (.slice A' m1 c1) ∧ w'.cell? ⟨a, p + k * 2 + 1, none⟩ = some (.bool y) :=
          fun w' h => ⟨⟨by rw [h.use.1 _ _ hbl']; exact hc1', by rw [h.use.1 _ _ hbl']; exact hc2'⟩, by rw [h.use.1 _ _ hbl]; exact hc1, by rw [h.use.1 _ _ hbl]; exact hc2⟩
        have Held := Lib.hid held
        have HM1 := Lib.hid hm1; have HL := Lib.hid hl'
        have hc9 : c' ≤ 140737488351232 := (reachN_le hre (by omega)).1
        clear hg' held hc1 hc2 hc1' hc2' hm1 hl'
        obtain ⟨wo, hwo⟩ : ∃ wo : World, wo = wr := ⟨_, rfl⟩
        subst hwo
        go_wp2
        go_region_held3 (fun w' => Bel w w' ∧ (w'.cell? ⟨b1, b2 + k * 2, none⟩ = some (.slice B' m c') ∧ w'.cell? ⟨b1, b2 + k * 2 + 1, none⟩ = some (.bool y)) ∧ w'.cell? ⟨a, p + k * 2, none⟩ = some (.slice A' m1 c1) ∧ w'.cell? ⟨a, p + k * 2 + 1, none⟩ = some (.bool y)) (exact ⟨by (repeat (first | exact Bel.refl _ | assumption | refine Bel.drew ?_ | refine Bel.drewN ?_ _ | refine Bel.alloc ?_ _ | refine Bel.setCell ?_ (by first | omega | (simp; done) | (simp; omega) | (simp at *; omega)) _ | refine Bel.trans ?_ (by assumption))), Held.out _ (by (repeat (first | exact Bel.refl _ | assumption | refine Bel.drew ?_ | refine Bel.drewN ?_ _ | refine Bel.alloc ?_ _ | refine Bel.setCell ?_ (by first | omega | (simp; done) | (simp; omega) | (simp at *; omega)) _ | refine Bel.trans ?_ (by assumption))))⟩)
          (first | (go_at_call 8; refine (keptInts_any A' B' m1 c1 m c' zs _ (hI.bel (by (repeat (first | exact Bel.refl _ | assumption | refine Bel.drew ?_ | refine Bel.drewN ?_ _ | refine Bel.alloc ?_ _ | refine Bel.setCell ?_ (by first | omega | (simp; done) | (simp; omega) | (simp at *; omega)) _ | refine Bel.trans ?_ (by assumption))))) (hI'.bel (by (repeat (first | exact Bel.refl _ | assumption | refine Bel.drew ?_ | refine Bel.drewN ?_ _ | refine Bel.alloc ?_ _ | refine Bel.setCell ?_ (by first | omega | (simp; done) | (simp; omega) | (simp at *; omega)) _ | refine Bel.trans ?_ (by assumption))))) HM1.out HL.out hm' hnn hc9).mono ?_; rintro e w1 ⟨rfl, hb1⟩))
        all_goals
          go_wp2
          go_roundw
          case rel => exact ⟨k + 1, by omega, by go_num, by (repeat (first | exact Bel.refl _ | assumption | refine Bel.drew ?_ | refine Bel.drewN ?_ _ | refine Bel.alloc ?_ _ | refine Bel.setCell ?_ (by first | omega | (simp; done) | (simp; omega) | (simp at *; omega)) _ | refine Bel.trans ?_ (by assumption)))⟩
          case measure => simp [intOf]; omega
      · obtain rfl : k = n := by omega
        go_wp2
        go_ret
        exact ⟨rfl, hb⟩
end Go.Proofs.Ytmklpldmgmjlkaa

