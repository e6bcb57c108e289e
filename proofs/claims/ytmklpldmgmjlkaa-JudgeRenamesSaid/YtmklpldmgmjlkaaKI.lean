/- The document's functions on records: Has, Validate, against. -/
import Derived.Test.YtmklpldmgmjlkaaJI
import Derived.Test.YtmklpldmgmjlkaaKC
namespace Go.Proofs.Ytmklpldmgmjlkaa
open Go.RowKit

set_option maxHeartbeats 400000 in
theorem has_any (A : Option Addr) (n c : Nat) (ns : List Int) (v : Int) (w : World) (hR : Ints w A ns) (hn : ns.length = n) (hmax : n ≤ maxLen) :
    Calls Try.prog 34 #[.slice A n c, .int .i64 v] w fun e w' => e = .returned (.bool (hasB ns v)) ∧ w = w' := by
  have Hn := Lib.hid hn
  have hm : (n : Int) ≤ 9223372036854775807 := by unfold maxLen at hmax; omega
  clear hn hmax
  go_enter Try.func34, Try.ntmps34
  go_wp2
  go_loop [5] (fun i => ∃ k : Nat, k ≤ n ∧ i = .int .i64 k ∧ Before ns v k) (fun i => n - (intOf i).toNat)
  case atStart => exact ⟨0, Nat.zero_le _, rfl, fun j u hj => by omega⟩
  case round =>
    obtain ⟨k, hk, rfl, hb⟩ := hrel
    have HB := Lib.hid hb
    clear hb
    by_cases hlt : k < n
    · obtain ⟨b, o, x, rfl, hbl, hg, hc1⟩ := hR.at_ (k := k) (by rw [Hn.out]; exact hlt)
      have HG := Lib.hid hg
      clear hg
      by_cases hx : x = v
      · subst hx
        have HT := Lib.hid (hasB_iff.2 (List.mem_of_getElem? HG.out))
        go_wp2
        go_ret
        exact ⟨ret_bool HT.out.symm, rfl⟩
      · have hxv : (x == v) = false := by simpa using hx
        have HX := Lib.hid hx
        clear hx
        go_wp2
        go_round
        case rel => exact ⟨k + 1, by omega, by go_num, fun j u hj hu => by
          rcases (by omega : j < k ∨ j = k) with h | rfl
          · exact HB.out j u h hu
          · rw [HG.out] at hu; injection hu with hu; rw [← hu]; exact HX.out⟩
        case measure => simp [intOf]; omega
    · obtain rfl : k = n := by omega
      have HT := Lib.hid (hasB_false (fun j u hu => HB.out j u (by rw [← Hn.out]; exact (List.getElem?_eq_some_iff.1 hu).1) hu))
      go_wp2
      go_ret
      exact ⟨ret_bool HT.out.symm, rfl⟩

set_option maxRecDepth 100000 in
set_option maxHeartbeats 1000000 in
theorem rIsSet_any (A : Option Addr) (n c : Nat) (ns : List Int) (g : Int) (w : World) (hR : Ints w A ns) (hn : ns.length = n) (hmax : n ≤ maxLen) (g1 : 1 ≤ g) (g2 : g ≤ 16) :
    Calls Try.prog 33 #[.slice A n c, .int .i64 g] w fun e w' => e = .returned (.bool (setB ns g)) ∧ Bel w w' := by
  have Hn := Lib.hid hn
  have hm : (n : Int) ≤ 9223372036854775807 := by unfold maxLen at hmax; omega
  clear hn hmax
  go_enter Try.func33, Try.ntmps33
  go_wp2
  go_loopw [5] (fun i wr => ∃ (k : Nat) (last : Int), k ≤ n ∧ i = .int .i64 k ∧ Bel w wr ∧ scanI last g (ns.drop k) = setB ns g ∧ ((k = 0 ∧ last = -1) ∨ ∃ p, k = p + 1 ∧ ns[p]? = some last ∧ 0 ≤ last)) (fun i _ => n - (intOf i).toNat)
  case atStart => exact ⟨0, -1, Nat.zero_le _, rfl, Bel.refl _, rfl, .inl ⟨rfl, rfl⟩⟩
  case round =>
    obtain ⟨k, last, hk, rfl, hb, hs, hl⟩ := hrel
    have HS := Lib.hid hs
    clear hs
    by_cases hlt : k < n
    · have hR2 := hR.bel hb
      obtain ⟨b, o, x, rfl, hbl, hg, hc1⟩ := hR2.at_ (k := k) (by rw [Hn.out]; exact hlt)
      have HG := Lib.hid (scanI_step (last := last) (below := g) hg)
      have HK := Lib.hid hg
      have hkn : (k : Int) < (n : Int) := by omega
      clear hg
      have WG : IntKind.i64.wrap (g - 1) = g - 1 := IntWalk.i64_in _ (by omega)
      by_cases hw : 0 ≤ x ∧ x ≤ g - 1
      · have HW := Lib.hid hw
        obtain ⟨w1, w2⟩ := hw
        rcases hl with ⟨hk0, rfl⟩ | ⟨p, rfl, hp, h0⟩
        · have hki : (k : Int) ≤ 0 := by omega
          have hdk : decide (0 < (k : Int)) = false := decide_eq_false (by omega)
          have hdn : decide (0 < k) = false := decide_eq_false (by omega)
          have HK0 := Lib.hid hk0
          clear hk0
          have hs2 : scanI x g (ns.drop (k + 1)) = setB ns g := by rw [← HS.out, HG.out, decide_eq_true (show (-1 : Int) < x by omega), decide_eq_true (show x < g by omega)]; rfl
          have HS2 := Lib.hid hs2
          clear hs2
          go_wp2
          go_quiet ((go_at_call 32; exact Calls.quiet_of_same ((within_yes _ _ _ _ HW.out).mono fun _ _ h => ⟨h.1, h.2.symm⟩)))
          go_wp2
          go_roundw
          case rel => exact ⟨k + 1, x, by omega, by go_num, by (repeat (first | exact Bel.refl _ | assumption | refine Bel.drew ?_ | refine Bel.drewN ?_ _ | refine Bel.alloc ?_ _ | refine Bel.setCell ?_ (by first | omega | (simp; done) | (simp; omega) | (simp at *; omega)) _ | refine Bel.trans ?_ (by assumption))), HS2.out, .inr ⟨k, rfl, HK.out, w1⟩⟩
          case measure => simp [intOf]; omega
        · obtain ⟨b', o', x', hA', hbl', hg', hc1'⟩ := hR2.at_ (k := p) (by rw [Hn.out]; omega)
          rw [hp] at hg'
          injection hg' with hg'
          subst hg'
          injection hA' with hA'
          injection hA' with e1 e2 _
          subst e1 e2
          have hpk : ((p + 1 : Nat) : Int) - 1 = (p : Int) := by omega
          have hp0 : (0 : Int) < ((p + 1 : Nat) : Int) := by omega
          have hpn : (p : Int) < (n : Int) := by omega
          have W1 : IntKind.i64.wrap (((p + 1 : Nat) : Int) - 1) = (p : Int) := by rw [hpk]; exact IntWalk.i64_in _ (by omega)
          by_cases h1 : last < x
          · have hs2 : scanI x g (ns.drop (p + 1 + 1)) = setB ns g := by rw [← HS.out, HG.out, decide_eq_true h1, decide_eq_true (show x < g by omega)]; rfl
            have HS2 := Lib.hid hs2
            clear hs2 hp
            go_wp2
            go_quiet ((go_at_call 32; exact Calls.quiet_of_same ((within_yes _ _ _ _ HW.out).mono fun _ _ h => ⟨h.1, h.2.symm⟩)))
            go_wp2
            go_roundw
            case rel => exact ⟨p + 1 + 1, x, by omega, by go_num, by (repeat (first | exact Bel.refl _ | assumption | refine Bel.drew ?_ | refine Bel.drewN ?_ _ | refine Bel.alloc ?_ _ | refine Bel.setCell ?_ (by first | omega | (simp; done) | (simp; omega) | (simp at *; omega)) _ | refine Bel.trans ?_ (by assumption))), HS2.out, .inr ⟨p + 1, rfl, HK.out, w1⟩⟩
            case measure => simp [intOf]; omega
          · have hs2 : setB ns g = false := by rw [← HS.out, HG.out, decide_eq_false h1]; simp
            have HS2 := Lib.hid hs2
            clear hs2 hp
            go_wp2
            go_quiet ((go_at_call 32; exact Calls.quiet_of_same ((within_yes _ _ _ _ HW.out).mono fun _ _ h => ⟨h.1, h.2.symm⟩)))
            go_wp2
            go_ret
            exact ⟨ret_bool HS2.out.symm, by (repeat (first | exact Bel.refl _ | assumption | refine Bel.drew ?_ | refine Bel.drewN ?_ _ | refine Bel.alloc ?_ _ | refine Bel.setCell ?_ (by first | omega | (simp; done) | (simp; omega) | (simp at *; omega)) _ | refine Bel.trans ?_ (by assumption)))⟩
      · have HW := Lib.hid hw
        have hs2 : setB ns g = false := by
          rw [← HS.out, HG.out]
          rcases hl with ⟨_, rfl⟩ | ⟨_, _, _, h0⟩
          · by_cases h2 : (-1 : Int) < x
            · rw [decide_eq_false (show ¬ x < g by omega)]; simp
            · rw [decide_eq_false h2]; simp
          · by_cases h2 : last < x
            · rw [decide_eq_false (show ¬ x < g by omega)]; simp
            · rw [decide_eq_false h2]; simp
        have HS2 := Lib.hid hs2
        clear hs2 hl hw
        go_wp2
        go_quiet ((go_at_call 32; exact Calls.quiet_of_same ((within_no _ _ _ _ HW.out).mono fun _ _ h => ⟨h.1, h.2.symm⟩)))
        go_wp2
        go_ret
        exact ⟨ret_bool HS2.out.symm, by (repeat (first | exact Bel.refl _ | assumption | refine Bel.drew ?_ | refine Bel.drewN ?_ _ | refine Bel.alloc ?_ _ | refine Bel.setCell ?_ (by first | omega | (simp; done) | (simp; omega) | (simp at *; omega)) _ | refine Bel.trans ?_ (by assumption)))⟩
    · obtain rfl : k = n := by omega
      have hs2 : setB ns g = true := by rw [← HS.out, List.drop_of_length_le (by rw [Hn.out]; omega)]; rfl
      have HS2 := Lib.hid hs2
      clear hs2 hl
      go_wp2
      go_ret
      exact ⟨ret_bool HS2.out.symm, hb⟩

set_option maxHeartbeats 1000000 in
theorem rValidate_any (g : Int) (A : Option Addr) (n c : Nat) (L : List An) (w : World) (hR : Ans w A L) (hn : L.length = n) (hmax : n ≤ maxLen) :
    Calls Try.prog 19 #[.int .i64 g, .slice A n c] w fun e w' => e = .returned (.int .i64 (errA g L)) ∧ Bel w w' := by
  have Hn := Lib.hid hn
  have hm : (n : Int) ≤ 9223372036854775807 := by unfold maxLen at hmax; omega
  clear hn hmax
  by_cases hg : 1 ≤ g ∧ g ≤ 16
  · have HGG := Lib.hid hg
    obtain ⟨g1, g2⟩ := hg
    by_cases h12 : 12 < n
    · have HE : Hid (errA g L = 3) := by show errA g L = 3; unfold errA; rw [if_pos ⟨g1, g2⟩, if_pos (by rw [Hn.out]; exact h12)]
      go_enter Try.func19, Try.ntmps19
      go_wp2_with fail
      refine (within_yes _ _ _ _ HGG.out).mono ?_
      rintro e w1 ⟨rfl, rfl⟩
      go_wp2
      go_ret
      exact ⟨ret_int HE.out.symm, Bel.refl _⟩
    · have HE : Hid (errA g L = if setsB g L = true then 0 else 1) := by show errA g L = _; unfold errA; rw [if_pos ⟨g1, g2⟩, if_neg (by rw [Hn.out]; exact h12)]
      go_enter Try.func19, Try.ntmps19
      go_wp2_with fail
      refine (within_yes _ _ _ _ HGG.out).mono ?_
      rintro e w1 ⟨rfl, rfl⟩
      go_wp2
      go_loopw [5] (fun i wr => ∃ k : Nat, k ≤ n ∧ i = .int .i64 k ∧ Bel w wr ∧ setsB g (L.drop k) = setsB g L) (fun i _ => n - (intOf i).toNat)
      case atStart => exact ⟨0, Nat.zero_le _, rfl, Bel.refl _, rfl⟩
      case round =>
        obtain ⟨k, hk, rfl, hb, hs⟩ := hrel
        have HS := Lib.hid hs
        clear hs
        by_cases hlt : k < n
        · obtain ⟨b, o, ns, y, A', n', c', rfl, hbl, hgk, hc1, hc2, hI, hn', hm'⟩ := (hR.bel hb).at_ (k := k) (by rw [Hn.out]; exact hlt)
          have HG := Lib.hid (setsB_step (g := g) hgk)
          have HN' := Lib.hid hn'; have HM' := Lib.hid hm'
          clear hgk hn' hm'
          go_wp2_with fail
          refine (rIsSet_any A' n' c' ns g _ (hI.bel (by (repeat (first | exact Bel.refl _ | assumption | refine Bel.drew ?_ | refine Bel.drewN ?_ _ | refine Bel.alloc ?_ _ | refine Bel.setCell ?_ (by first | omega | (simp; done) | (simp; omega) | (simp at *; omega)) _ | refine Bel.trans ?_ (by assumption))))) HN'.out HM'.out g1 g2).mono ?_
          rintro e w1 ⟨rfl, hb1⟩
          cases hss : setB ns g
          · have HF : Hid (errA g L = 1) := by show errA g L = 1; rw [HE.out, ← HS.out, HG.out, hss]; rfl
            clear hss
            go_wp2
            go_ret
            exact ⟨ret_int HF.out.symm, by (repeat (first | exact Bel.refl _ | assumption | refine Bel.drew ?_ | refine Bel.drewN ?_ _ | refine Bel.alloc ?_ _ | refine Bel.setCell ?_ (by first | omega | (simp; done) | (simp; omega) | (simp at *; omega)) _ | refine Bel.trans ?_ (by assumption)))⟩
          · have HF : Hid (setsB g (L.drop (k + 1)) = setsB g L) := by show _ = _; rw [← HS.out, HG.out, hss]; simp
            clear hss
            go_wp2
            go_roundw
            case rel => exact ⟨k + 1, by omega, by go_num, by (repeat (first | exact Bel.refl _ | assumption | refine Bel.drew ?_ | refine Bel.drewN ?_ _ | refine Bel.alloc ?_ _ | refine Bel.setCell ?_ (by first | omega | (simp; done) | (simp; omega) | (simp at *; omega)) _ | refine Bel.trans ?_ (by assumption))), HF.out⟩
            case measure => simp [intOf]; omega
        · obtain rfl : k = n := by omega
          have HF : Hid (errA g L = 0) := by show errA g L = 0; rw [HE.out, ← HS.out, List.drop_of_length_le (by rw [Hn.out]; omega)]; rfl
          go_wp2
          go_ret
          exact ⟨ret_int HF.out.symm, hb⟩
  · have HE : Hid (errA g L = 1) := by show errA g L = 1; unfold errA; rw [if_neg hg]
    have HGG := Lib.hid hg
    clear hg
    go_enter Try.func19, Try.ntmps19
    go_wp2_with fail
    refine (within_no _ _ _ _ HGG.out).mono ?_
    rintro e w1 ⟨rfl, rfl⟩
    go_wp2
    go_ret
    exact ⟨ret_int HE.out.symm, Bel.refl _⟩
end Go.Proofs.Ytmklpldmgmjlkaa

