/- Cases: errors of the program; the document's all and Cases; SameCases. -/
import Derived.Test.YtmckoehkekkldaaAG
namespace Go.Proofs.Ytmckoehkekkldaa
open Go.RowKit

theorem errK_bad {n : Int} {P : List Wg} {l : List Int} (h : errV n P ≠ 0) : errK n P l = errV n P := by unfold errK; rw [if_neg h]
theorem errK_arg {n : Int} {P : List Wg} {l : List Int} (h : errV n P = 0) (hl : ¬ (l.length = P.length ∧ sidesB l = true)) : errK n P l = 1 := by unfold errK; rw [if_pos h, if_neg hl]
theorem errK_ok {n : Int} {P : List Wg} {l : List Int} (h : errV n P = 0) (hl : l.length = P.length ∧ sidesB l = true) : errK n P l = 0 := by unfold errK; rw [if_pos h, if_pos hl]
/-- What Cases returns. -/
def CasesRet (w : World) (n : Int) (P : List Wg) (l : List Int) (e : Ending) (w' : World) : Prop :=
  ∃ A' n' c', e = .returned (.tuple #[.slice A' n' c', .bool (blankR n P l), .int .i64 (errK n P l)]) ∧ Bel w w' ∧ Prs w' A' (casesR n P l) ∧ (casesR n P l).length = n' ∧ n' ≤ 26
theorem casesRet_ok {w w' : World} {n : Nat} {P : List Wg} {l : List Int} {e : Ending} (hk : errK (n : Int) P l = 0) (h : CasesOK w n P l e w') : CasesRet w (n : Int) P l e w' := by
  obtain ⟨A', n', c', rfl, h1, h2, h3, h4⟩ := h
  have e1 : blankR (n : Int) P l = blankB l := by unfold blankR; rw [if_pos hk]
  have e2 : casesR (n : Int) P l = (casesL n).filter (isAns P l) := by unfold casesR; rw [if_pos hk]; rfl
  exact ⟨A', n', c', by rw [e1, hk], h1, by rw [e2]; exact h2, by rw [e2]; exact h3, h4⟩
theorem casesRet_err {w w' : World} {n : Int} {P : List Wg} {l : List Int} {v : Int} (hk : errK n P l = v) (hv : v ≠ 0) (hb : Bel w w') : CasesRet w n P l (.returned (.tuple #[.slice none 0 0, .bool false, .int .i64 v])) w' := by
  have e1 : blankR n P l = false := by unfold blankR; rw [if_neg (by rw [hk]; exact hv)]
  have e2 : casesR n P l = [] := by unfold casesR; rw [if_neg (by rw [hk]; exact hv)]
  exact ⟨none, 0, 0, by rw [e1, hk], hb, by rw [e2]; exact .inl rfl, by rw [e2]; rfl, by decide⟩
set_option maxRecDepth 100000 in
set_option maxHeartbeats 4000000 in
theorem cases_any (lo : Nat) (n : Int) (A : Option Addr) (m c : Nat) (P : List Wg) (B : Option Addr) (q d : Nat) (l : List Int) (w : World) (hR : Plan lo w A P) (hm : P.length = m) (hI : Ints w B l) (hq : l.length = q) (hmax : q ≤ maxLen) :
    Calls Try.prog 47 #[.int .i64 n, .slice A m c, .slice B q d] w (CasesRet w n P l) := by
  by_cases hE : errV n P = 0
  · by_cases hl : l.length = P.length ∧ sidesB l = true
    · obtain ⟨n', rfl, hG⟩ := errV_good hE
      obtain ⟨h1, h2⟩ := hl
      obtain rfl : q = m := by omega
      exact (cases_ok lo n' A q c P B d l w hR hm hG hI hq h2).mono fun e w' h => casesRet_ok (errK_ok hE ⟨h1, h2⟩) h
    · have HK := Lib.hid (errK_arg hE hl)
      have HE := Lib.hid hE
      have Hm := Lib.hid hm; have Hq := Lib.hid hq
      by_cases hqm : q = m
      · subst hqm
        have HS : Hid (sidesB l = false) := by
          show _ = _
          cases hs : sidesB l
          · rfl
          · exact absurd ⟨by omega, hs⟩ hl
        have hmm : ((q : Int) != (q : Int)) = false := by simp
        clear hE hl hm hq
        go_enter Try.func47, Try.ntmps47
        go_wp2_with fail
        refine (validate_any lo _ A q c P _ hR Hm.out).mono ?_
        rintro e w1 ⟨rfl, hb1⟩
        rw [HE.out]
        go_wp2_with fail
        refine (areSides_any B q d l _ (hI.bel hb1) Hq.out hmax).mono ?_
        rintro e w1' ⟨rfl, hw⟩
        subst hw
        rw [HS.out]
        go_wp2
        exact bodyPost_ret (v := .tuple #[.slice none 0 0, .bool false, .int .i64 1]) (by simp [results, Try.results47, go_sem]) rfl (casesRet_err HK.out (by decide) hb1)
      · have hne : ((q : Int) != (m : Int)) = true := by simp; omega
        have hne' : ¬ (q : Int) = (m : Int) := by omega
        clear hE hl hm hq
        go_enter Try.func47, Try.ntmps47
        go_wp2_with fail
        refine (validate_any lo _ A m c P _ hR Hm.out).mono ?_
        rintro e w1 ⟨rfl, hb1⟩
        rw [HE.out]
        go_wp2
        exact bodyPost_ret (v := .tuple #[.slice none 0 0, .bool false, .int .i64 1]) (by simp [results, Try.results47, go_sem]) rfl (casesRet_err HK.out (by decide) hb1)
  · have hE' : (errV n P != 0) = true := by simpa using hE
    have HK := Lib.hid (errK_bad (l := l) hE)
    have HN := Lib.hid hE
    obtain ⟨v, hv⟩ : ∃ v, v = errV n P := ⟨_, rfl⟩
    have HV := Lib.hid hv
    rw [← hv] at hE hE'
    have Hm := Lib.hid hm
    clear hm hv hq
    go_enter Try.func47, Try.ntmps47
    go_wp2_with fail
    refine (validate_any lo _ A m c P _ hR Hm.out).mono ?_
    rintro e w1 ⟨rfl, hb1⟩
    rw [← HV.out]
    go_wp2
    exact bodyPost_ret (v := .tuple #[.slice none 0 0, .bool false, .int .i64 v]) (by simp [results, Try.results47, go_sem]) rfl (casesRet_err (by rw [HK.out, ← HV.out]) (by rw [HV.out]; exact HN.out) hb1)
set_option maxRecDepth 100000 in
set_option maxHeartbeats 1000000 in
theorem rAll_any (n : Nat) (w : World) (hn : n ≤ 13) : Calls Try.prog 86 #[.int .i64 (n : Int)] w fun e w' => ∃ A c, e = .returned (.slice A (n * 2) c) ∧ n * 2 ≤ c ∧ Bel w w' ∧ Prs w' A (casesL n) := by
  obtain ⟨i0, hi, hz0, hz1, hz2⟩ := info_parts info2C
  go_enter Try.func86, Try.ntmps86
  go_wp2
  go_loopw [3, 4] (fun v i wr => ∃ k : Nat, k ≤ n ∧ i = .int .i64 k ∧ Bel w wr ∧ Own2 24 w.heap.size wr v (casesL k)) (fun _ i _ => n - (intOf i).toNat)
  case atStart => exact ⟨0, Nat.zero_le _, rfl, Bel.refl _, World.ownsRow_nil _ _ _ _⟩
  case round =>
    obtain ⟨k, hk, rfl, hb, hO⟩ := hrel
    by_cases hlt : k < n
    · have hki : (k : Int) < (n : Int) := by omega
      have hO1 : wr.ownsRow w.heap.size 24 2 u3 (k * 2) (cel2 (casesL k)) := by have := hO; unfold Own2 at this; rw [casesL_length] at this; exact this
      have hX1 := Lib.hid (show k * 2 + 2 ≤ maxLen by unfold maxLen; omega)
      have hX2 := Lib.hid (show (k * 2 + 2) * 16 ≤ 140737488355328 by omega)
      have hbase := hb.size
      go_wp2_with (at_builtin; go_loud (refine wpList_append_lies _ rfl (.tmp 10) (.tmp 15) 55 rfl w.heap.size 24 i0 _ 2 16 Try.underlying55 hi hz0 hz1 hz2 rfl (by decide) u3 (k * 2) (cel2 (casesL k)) (by rfl) (hO1.alloc _) ⟨wr.heap.size, 0, none⟩ 2 2 [.int .i64 (k : Int), .int .i64 (-1), .int .i64 (k : Int), .int .i64 1] (by rfl) rfl (new4 _ _ _ _ _ _ _ rfl) (one4 _ _ _ _) (by omega) hX1.out hX2.out (by simp <;> omega) _ rfl ?_); intro g3 cap3 w3 hown3 hgr3 hat3 hlt3)
      have hB3 := grown_own (w := w) (hb.alloc _) hO1 (Nat.le_refl _) hgr3
      have hO3 : Own2 24 w.heap.size w3 (.slice (some ⟨g3, 0, none⟩) (k * 2 + 2) cap3) (casesL (k + 1)) := by
        unfold Own2
        rw [casesL_length, casesL_succ, cel2_append, show (k + 1) * 2 = k * 2 + 2 from by omega]
        exact hown3
      have HO3 := Lib.hid hO3
      clear hown3 hgr3 hat3 hlt3 hO hO1 hO3
      go_roundw
      case rel => exact ⟨k + 1, by omega, by go_num, hB3, HO3.out⟩
      case measure => simp [intOf]; omega
    · obtain rfl : k = n := by omega
      obtain ⟨A', n', c', rfl, hn', hI, hcap⟩ := hO.form
      rw [casesL_length] at hn'
      subst hn'
      go_wp2
      go_ret
      exact ⟨A', c', rfl, hcap, hb, hI⟩
set_option maxRecDepth 100000 in
set_option maxHeartbeats 1000000 in
theorem sameCases_any (A B : Option Addr) (n c m d : Nat) (l : List (Int × Int)) (w : World) (hA : Prs w A l) (hB : Prs w B l) (hn : l.length = n) (hm : l.length = m) (hmax : n ≤ maxLen) :
    Calls Try.prog 48 #[.slice A n c, .slice B m d] w fun e w' => e = .returned (.bool true) ∧ Bel w w' := by
  obtain rfl : n = m := by omega
  have Hn := Lib.hid hn
  have h63 : (n : Int) ≤ 9223372036854775807 := by unfold maxLen at hmax; omega
  clear hn hm hmax
  go_enter Try.func48, Try.ntmps48
  go_wp2
  go_loopw [5] (fun i wr => ∃ k : Nat, k ≤ n ∧ i = .int .i64 k ∧ Bel w wr) (fun i _ => n - (intOf i).toNat)
  case atStart => exact ⟨0, Nat.zero_le _, rfl, Bel.refl _⟩
  case round =>
    obtain ⟨k, hk, rfl, hb⟩ := hrel
    by_cases hlt : k < n
    · obtain ⟨b, o, s, t, rfl, hbl, hg, c1, c2⟩ := (hA.bel hb).at_ (k := k) (by rw [Hn.out]; exact hlt)
      obtain ⟨b', o', s', t', rfl, hbl', hg', c1', c2'⟩ := (hB.bel hb).at_ (k := k) (by rw [Hn.out]; exact hlt)
      rw [hg] at hg'
      injection hg' with hg'
      injection hg' with e1 e2
      subst e1 e2
      have hkn : (k : Int) < (n : Int) := by omega
      have hk0 : (0 : Int) ≤ (k : Int) := by omega
      clear hg
      go_wp2
      go_quiet (fail)
      go_wp2
      go_roundw
      case rel => exact ⟨k + 1, by omega, by go_num, by (repeat (first | exact Bel.refl _ | assumption | refine Bel.drew ?_ | refine Bel.drewN ?_ _ | refine Bel.alloc ?_ _ | refine Bel.setCell ?_ (by first | omega | (simp; done) | (simp; omega) | (simp at *; omega)) _ | refine Bel.trans ?_ (by assumption)))⟩
      case measure => simp [intOf]; omega
    · obtain rfl : k = n := by omega
      go_wp2
      go_ret
      exact ⟨rfl, hb⟩
end Go.Proofs.Ytmckoehkekkldaa
