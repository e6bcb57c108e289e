/- Sets of paints: the document's IsSet, is, IsCalm, IsBitter, painted, Feuds. -/
import Derived.Test.YtcndmfkbfimllaaU
namespace Go.Proofs.Ytcndmfkbfimllaa
open Go.RowKit Go.Maps

theorem scan_bound {last below : Int} : ∀ {l : List Int}, scanI last below l = true → ∀ x ∈ l, last < x ∧ x < below
  | [], _ => by simp
  | a :: r, h => by
    simp [scanI] at h
    obtain ⟨⟨h1, h2⟩, h3⟩ := h
    intro x hx
    rcases List.mem_cons.1 hx with rfl | hx
    · exact ⟨h1, h2⟩
    · have := scan_bound h3 x hx; omega
/-- A set of paints, as natural numbers. -/
theorem set_nat {l : List Int} {p : Nat} (h : setB l (p : Int) = true) : ∃ m : List Nat, l = upN m ∧ ∀ x ∈ m, x < p := by
  have hb := scan_bound h
  refine ⟨l.map Int.toNat, ?_, fun x hx => ?_⟩
  · unfold upN
    rw [List.map_map]
    conv => lhs; rw [← List.map_id l]
    refine List.map_congr_left fun x hx => ?_
    have := hb x hx
    simp only [Function.comp, id]
    omega
  · obtain ⟨_, hy, rfl⟩ := List.mem_map.1 hx
    have := hb _ hy
    omega
theorem within_yes (n lo hi : Int) (w : World) (h : lo ≤ n ∧ n ≤ hi) : Calls Try.prog 87 #[.int .i64 n, .int .i64 lo, .int .i64 hi] w fun e w' => e = .returned (.bool true) ∧ w = w' :=
  (within_any n lo hi w).mono fun e w' ⟨h1, h2⟩ => ⟨by rw [h1, withinB_iff.2 h], h2⟩
theorem within_no (n lo hi : Int) (w : World) (h : ¬ (lo ≤ n ∧ n ≤ hi)) : Calls Try.prog 87 #[.int .i64 n, .int .i64 lo, .int .i64 hi] w fun e w' => e = .returned (.bool false) ∧ w = w' :=
  (within_any n lo hi w).mono fun e w' ⟨h1, h2⟩ => ⟨by rw [h1, show withinB n lo hi = false by rw [Bool.eq_false_iff]; exact fun e => h (withinB_iff.1 e)], h2⟩
set_option maxRecDepth 100000 in
set_option maxHeartbeats 1000000 in
theorem rIsSet_any (A : Option Addr) (n c : Nat) (ns : List Int) (g : Int) (w : World) (hR : Ints w A ns) (hn : ns.length = n) (hmax : n ≤ maxLen) (g1 : 1 ≤ g) (g2 : g ≤ 16) :
    Calls Try.prog 112 #[.slice A n c, .int .i64 g] w fun e w' => e = .returned (.bool (setB ns g)) ∧ Bel w w' := by
  have Hn := Lib.hid hn
  have hm : (n : Int) ≤ 9223372036854775807 := by unfold maxLen at hmax; omega
  clear hn hmax
  go_enter Try.func112, Try.ntmps112
  go_wp2
  go_loopw [5] (fun i wr => ∃ (k : Nat) (last : Int), k ≤ n ∧ i = .int .i64 k ∧ Bel w wr ∧ scanI last g (ns.drop k) = setB ns g ∧ ((k = 0 ∧ last = -1) ∨ ∃ p, k = p + 1 ∧ ns[p]? = some last ∧ 0 ≤ last)) (fun i _ => n - (intOf i).toNat)
  case atStart => exact ⟨0, -1, Nat.zero_le _, rfl, Bel.refl _, rfl, .inl ⟨rfl, rfl⟩⟩
  case round =>
    obtain ⟨k, last, hk, rfl, hb, hs, hl⟩ := hrel
    have HS := Lib.hid hs
    clear hs
    by_cases hlt : k < n
    · have hR2 := hR.bel hb
      obtain ⟨b, o, x, rfl, hbl, hg, hc1⟩ := hR2.at_ (k := k) (by rw [Hn.out]; exact hlt)
      have HG := Lib.hid (scanI_step (last := last) (below := g) hg)
      have HK := Lib.hid hg
      have hkn : (k : Int) < (n : Int) := by omega
      clear hg
      have WG : IntKind.i64.wrap (g - 1) = g - 1 := IntWalk.i64_in _ (by omega)
      by_cases hw : 0 ≤ x ∧ x ≤ g - 1
      · have HW := Lib.hid hw
        obtain ⟨w1, w2⟩ := hw
        rcases hl with ⟨hk0, rfl⟩ | ⟨p, rfl, hp, h0⟩
        · have hki : (k : Int) ≤ 0 := by omega
          have hdk : decide (0 < (k : Int)) = false := decide_eq_false (by omega)
          have hdn : decide (0 < k) = false := decide_eq_false (by omega)
          have HK0 := Lib.hid hk0
          clear hk0
          have hs2 : scanI x g (ns.drop (k + 1)) = setB ns g := by rw [← HS.out, HG.out, decide_eq_true (show (-1 : Int) < x by omega), decide_eq_true (show x < g by omega)]; rfl
          have HS2 := Lib.hid hs2
          clear hs2
          go_wp2
          go_quiet ((go_at_call 87; exact Calls.quiet_of_same ((within_yes _ _ _ _ HW.out).mono fun _ _ h => ⟨h.1, h.2.symm⟩)))
          go_wp2
          go_roundw
          case rel => exact ⟨k + 1, x, by omega, by go_num, by (repeat (first | exact Bel.refl _ | assumption | refine Bel.drew ?_ | refine Bel.drewN ?_ _ | refine Bel.alloc ?_ _ | refine Bel.setCell ?_ (by first | omega | (simp; done) | (simp; omega) | (simp at *; omega)) _ | refine Bel.trans ?_ (by assumption))), HS2.out, .inr ⟨k, rfl, HK.out, w1⟩⟩
          case measure => simp [intOf]; omega
        · obtain ⟨b', o', x', hA', hbl', hg', hc1'⟩ := hR2.at_ (k := p) (by rw [Hn.out]; omega)
          rw [hp] at hg'
          injection hg' with hg'
          subst hg'
          injection hA' with hA'
          injection hA' with e1 e2 _
          subst e1 e2
          have hpk : ((p + 1 : Nat) : Int) - 1 = (p : Int) := by omega
          have hp0 : (0 : Int) < ((p + 1 : Nat) : Int) := by omega
          have hpn : (p : Int) < (n : Int) := by omega
          have W1 : IntKind.i64.wrap (((p + 1 : Nat) : Int) - 1) = (p : Int) := by rw [hpk]; exact IntWalk.i64_in _ (by omega)
          by_cases h1 : last < x
          · have hs2 : scanI x g (ns.drop (p + 1 + 1)) = setB ns g := by rw [← HS.out, HG.out, decide_eq_true h1, decide_eq_true (show x < g by omega)]; rfl
            have HS2 := Lib.hid hs2
            clear hs2 hp
            go_wp2
            go_quiet ((go_at_call 87; exact Calls.quiet_of_same ((within_yes _ _ _ _ HW.out).mono fun _ _ h => ⟨h.1, h.2.symm⟩)))
            go_wp2
            go_roundw
            case rel => exact ⟨p + 1 + 1, x, by omega, by go_num, by (repeat (first | exact Bel.refl _ | assumption | refine Bel.drew ?_ | refine Bel.drewN ?_ _ | refine Bel.alloc ?_ _ | refine Bel.setCell ?_ (by first | omega | (simp; done) | (simp; omega) | (simp at *; omega)) _ | refine Bel.trans ?_ (by assumption))), HS2.out, .inr ⟨p + 1, rfl, HK.out, w1⟩⟩
            case measure => simp [intOf]; omega
          · have hs2 : setB ns g = false := by rw [← HS.out, HG.out, decide_eq_false h1]; simp
            have HS2 := Lib.hid hs2
            clear hs2 hp
            go_wp2
            go_quiet ((go_at_call 87; exact Calls.quiet_of_same ((within_yes _ _ _ _ HW.out).mono fun _ _ h => ⟨h.1, h.2.symm⟩)))
            go_wp2
            go_ret
            exact ⟨ret_bool HS2.out.symm, by (repeat (first | exact Bel.refl _ | assumption | refine Bel.drew ?_ | refine Bel.drewN ?_ _ | refine Bel.alloc ?_ _ | refine Bel.setCell ?_ (by first | omega | (simp; done) | (simp; omega) | (simp at *; omega)) _ | refine Bel.trans ?_ (by assumption)))⟩
      · have HW := Lib.hid hw
        have hs2 : setB ns g = false := by
          rw [← HS.out, HG.out]
          rcases hl with ⟨_, rfl⟩ | ⟨_, _, _, h0⟩
          · by_cases h2 : (-1 : Int) < x
            · rw [decide_eq_false (show ¬ x < g by omega)]; simp
            · rw [decide_eq_false h2]; simp
          · by_cases h2 : last < x
            · rw [decide_eq_false (show ¬ x < g by omega)]; simp
            · rw [decide_eq_false h2]; simp
        have HS2 := Lib.hid hs2
        clear hs2 hl hw
        go_wp2
        go_quiet ((go_at_call 87; exact Calls.quiet_of_same ((within_no _ _ _ _ HW.out).mono fun _ _ h => ⟨h.1, h.2.symm⟩)))
        go_wp2
        go_ret
        exact ⟨ret_bool HS2.out.symm, by (repeat (first | exact Bel.refl _ | assumption | refine Bel.drew ?_ | refine Bel.drewN ?_ _ | refine Bel.alloc ?_ _ | refine Bel.setCell ?_ (by first | omega | (simp; done) | (simp; omega) | (simp at *; omega)) _ | refine Bel.trans ?_ (by assumption)))⟩
    · obtain rfl : k = n := by omega
      have hs2 : setB ns g = true := by rw [← HS.out, List.drop_of_length_le (by rw [Hn.out]; omega)]; rfl
      have HS2 := Lib.hid hs2
      clear hs2 hl
      go_wp2
      go_ret
      exact ⟨ret_bool HS2.out.symm, hb⟩
end Go.Proofs.Ytcndmfkbfimllaa
