/- Cases of the document. -/
import Derived.Test.YtmckoehkekkldaaAH
namespace Go.Proofs.Ytmckoehkekkldaa
open Go.RowKit

theorem sides_next {l : List Int} {k : Nat} {x : Int} (h : ∀ (j : Nat) (u : Int), j < k → l[j]? = some u → sideOk u = true) (hg : l[k]? = some x) (hx : sideOk x = true) : ∀ (j : Nat) (u : Int), j < k + 1 → l[j]? = some u → sideOk u = true := by
  intro j u hj hu
  rcases (by omega : j < k ∨ j = k) with h1 | rfl
  · exact h j u h1 hu
  · rw [hg] at hu
    injection hu with hu
    subst hu
    exact hx
theorem sides_all {l : List Int} {n : Nat} (h : ∀ (j : Nat) (u : Int), j < n → l[j]? = some u → sideOk u = true) (hn : l.length = n) : sidesB l = true := by
  unfold sidesB
  rw [List.all_eq_true]
  intro u hu
  obtain ⟨j, hj⟩ := List.mem_iff_getElem?.1 hu
  exact h j u (by rw [← hn]; exact (List.getElem?_eq_some_iff.1 hj).1) hj
theorem sides_no {l : List Int} {k : Nat} {x : Int} (hg : l[k]? = some x) (hx : sideOk x = false) : sidesB l = false := by
  unfold sidesB
  rw [List.all_eq_false]
  exact ⟨x, List.mem_of_getElem? hg, by simp [hx]⟩
set_option maxRecDepth 100000 in
set_option maxHeartbeats 4000000 in
theorem rCases_ok (lo n : Nat) (A : Option Addr) (m c : Nat) (P : List Wg) (B : Option Addr) (d : Nat) (l : List Int) (w : World) (hR : Plan lo w A P) (hm : P.length = m) (hG : Good n P) (hI : Ints w B l) (hl : l.length = m) :
    Calls Try.prog 46 #[.int .i64 (n : Int), .slice A m c, .slice B m d] w (CasesRet w (n : Int) P l) := by
  obtain ⟨i0, hi, hz0, hz1, hz2⟩ := info_parts info2C
  have h3 := hG.few
  have hm3 : m ≤ 3 := by omega
  have hn13 := hG.le
  have Hm := Lib.hid hm; have Hl := Lib.hid hl; have HGo := Lib.hid hG; have HE := Lib.hid hG.err
  have HK0 := Lib.hid (fun (hs : sidesB l = true) => errK_ok (l := l) hG.err ⟨by omega, hs⟩)
  have HK1 := Lib.hid (fun (hs : sidesB l = false) => errK_arg (l := l) hG.err (fun h => by rw [hs] at h; cases h.2))
  have hmm : ((m : Int) != (m : Int)) = false := by simp
  have hmi : (m : Int) ≤ 3 := by omega
  clear hm hl hG h3
  go_enter Try.func46, Try.ntmps46
  go_wp2_with fail
  refine (rValidate_any lo _ A m c P _ hR Hm.out).mono ?_
  rintro e w1 ⟨rfl, hb1⟩
  rw [HE.out]
  go_wp2
  go_loopw [10] (fun i wr => ∃ k : Nat, k ≤ m ∧ i = .int .i64 k ∧ Bel w wr ∧ ∀ (j : Nat) (u : Int), j < k → l[j]? = some u → sideOk u = true) (fun i _ => m - (intOf i).toNat)
  case atStart => exact ⟨0, Nat.zero_le _, rfl, hb1, fun j u hj => by omega⟩
  case round =>
    obtain ⟨k, hk, rfl, hb, hz⟩ := hrel
    have HZ := Lib.hid hz
    clear hz
    by_cases hlt : k < m
    · obtain ⟨b, o, x, rfl, hbl, hg, hc1⟩ := (hI.bel hb).at_ (k := k) (by rw [Hl.out]; exact hlt)
      have HG := Lib.hid hg
      have hki : (k : Int) < (m : Int) := by omega
      have hk0 : (0 : Int) ≤ (k : Int) := by omega
      clear hg
      by_cases hx : -1 ≤ x ∧ x ≤ 1
      · have HX := Lib.hid hx
        have HN := Lib.hid (sides_next HZ.out HG.out (decide_eq_true hx))
        clear hx
        go_wp2_with (first | (go_at_call 83; refine (within_yes _ _ _ _ HX.out).mono ?_; rintro e w1 ⟨rfl, rfl⟩))
        go_roundw
        case rel => exact ⟨k + 1, by omega, by go_num, by (repeat (first | exact Bel.refl _ | assumption | refine Bel.drew ?_ | refine Bel.drewN ?_ _ | refine Bel.alloc ?_ _ | refine Bel.setCell ?_ (by first | omega | (simp; done) | (simp; omega) | (simp at *; omega)) _ | refine Bel.trans ?_ (by assumption))), HN.out⟩
        case measure => simp [intOf]; omega
      · have HX := Lib.hid hx
        have HK := Lib.hid (HK1.out (sides_no HG.out (decide_eq_false hx)))
        clear hx
        go_wp2_with (first | (go_at_call 83; refine (within_no _ _ _ _ HX.out).mono ?_; rintro e w1 ⟨rfl, rfl⟩))
        exact bodyPost_ret (v := .tuple #[.slice none 0 0, .bool false, .int .i64 1]) (by simp [results, Try.results46, go_sem]) rfl (casesRet_err HK.out (by decide) (by (repeat (first | exact Bel.refl _ | assumption | refine Bel.drew ?_ | refine Bel.drewN ?_ _ | refine Bel.alloc ?_ _ | refine Bel.setCell ?_ (by first | omega | (simp; done) | (simp; omega) | (simp at *; omega)) _ | refine Bel.trans ?_ (by assumption)))))
    · obtain rfl : k = m := by omega
      have HK := Lib.hid (HK0.out (sides_all HZ.out Hl.out))
      clear HZ hb1
      go_wp2_with fail
      refine (rAll_any n _ hn13).mono ?_
      rintro e w4 ⟨Ac, cc, rfl, hcap, hb4, hCs⟩
      have hbw4 : Bel w w4 := hb.trans hb4
      have hn2i : (n : Int) * 2 ≤ 26 := by omega
      clear hb4
      go_wp2
      go_loopw [12, 13] (fun v i wr => ∃ p : Nat, p ≤ n * 2 ∧ i = .int .i64 p ∧ Bel w4 wr ∧ Own2 24 w4.heap.size wr v (casesV n P l p)) (fun _ i _ => n * 2 - (intOf i).toNat)
      case atStart => exact ⟨0, Nat.zero_le _, rfl, Bel.refl _, World.ownsRow_nil _ _ _ _⟩
      case round =>
        obtain ⟨p, hp, rfl, hb, hO⟩ := hrel
        by_cases hlt : p < n * 2
        · obtain ⟨bc, oc, rfl, hbc, c1, c2⟩ := hCs.case hlt
          have hki : (p : Int) < (n : Int) * 2 := by omega
          have hk0 : (0 : Int) ≤ (p : Int) := by omega
          have hnx := casesV_next (P := P) (l := l) hlt
          have hll := casesV_len n P l p
          obtain ⟨ll, hL⟩ : ∃ ll, ll = casesV n P l p := ⟨_, rfl⟩
          rw [← hL] at hO hnx hll
          have hO1 : wr.ownsRow w4.heap.size 24 2 u12 ll.length (cel2 ll) := hO
          obtain ⟨wo, hwo⟩ : ∃ wo : World, wo = wr := ⟨_, rfl⟩
          subst hwo
          have Held2 : Hid (∀ w', Bel wo w' → w'.cell? ⟨bc, oc + p * 2, none⟩ = some (.int .i64 (lotN p : Int)) ∧ w'.cell? ⟨bc, oc + p * 2 + 1, none⟩ = some (.int .i64 (wayN p))) := fun w' h => ⟨by rw [(hb.trans h).use.1 _ _ hbc]; exact c1, by rw [(hb.trans h).use.1 _ _ hbc]; exact c2⟩
          obtain ⟨d1, d2⟩ := Held2.out wo (Bel.refl _)
          have hX1 := Lib.hid (show ll.length + 1 ≤ maxLen by unfold maxLen; omega)
          have hX2 := Lib.hid (show (ll.length + 1) * 16 ≤ 140737488355328 by omega)
          have hbs := hb.size
          have HBX := Lib.hid (mark_bd P (lotN p : Int) (wayN p) (by rcases wayN_or p with h | h; exact .inl h; exact .inr (.inl h)))
          have HLX : Hid ((markL P (lotN p : Int)).length = k) := by show _ = _; rw [markL_length]; exact Hm.out
          have HTX : Hid ((timesL (markL P (lotN p : Int)) (wayN p)).length = k) := by show _ = _; rw [timesL_length, markL_length]; exact Hm.out
          have HM100 := Lib.hid (show k ≤ 100 by omega)
          have HMX := Lib.hid (show k ≤ maxLen by unfold maxLen; omega)
          have hR4 := hR.bel hbw4
          have hI4 := hI.bel hbw4
          clear c1 c2 hL hll
          cases hq : isAns P l ((lotN p : Int), wayN p)
          · rw [hq, if_neg (by decide)] at hnx
            have HNX := Lib.hid hnx
            have HQ : Hid (decide (timesL (markL P (lotN p : Int)) (wayN p) = l) = false) := hq
            clear hnx hq
            go_wp2
            go_region_held3 (fun w' => Bel wo w' ∧ w'.cell? ⟨bc, oc + p * 2, none⟩ = some (.int .i64 (lotN p : Int)) ∧ w'.cell? ⟨bc, oc + p * 2 + 1, none⟩ = some (.int .i64 (wayN p))) (exact ⟨by (repeat (first | exact Bel.refl _ | assumption | refine Bel.drew ?_ | refine Bel.drewN ?_ _ | refine Bel.alloc ?_ _ | refine Bel.setCell ?_ (by first | omega | (simp; done) | (simp; omega) | (simp at *; omega)) _ | refine Bel.trans ?_ (by assumption))), Held2.out _ (by (repeat (first | exact Bel.refl _ | assumption | refine Bel.drew ?_ | refine Bel.drewN ?_ _ | refine Bel.alloc ?_ _ | refine Bel.setCell ?_ (by first | omega | (simp; done) | (simp; omega) | (simp at *; omega)) _ | refine Bel.trans ?_ (by assumption))))⟩) (first | (go_at_call 77; refine (rMark_any lo n A k c P (lotN p : Int) _ (hR4.bel (by (repeat (first | exact Bel.refl _ | assumption | refine Bel.drew ?_ | refine Bel.drewN ?_ _ | refine Bel.alloc ?_ _ | refine Bel.setCell ?_ (by first | omega | (simp; done) | (simp; omega) | (simp at *; omega)) _ | refine Bel.trans ?_ (by assumption))))) Hm.out HGo.out).mono ?_; rintro e w5 ⟨v5, rfl, hO5, hb5⟩; obtain ⟨A5, n5, c5, rfl, hn5, hI5⟩ := hO5.form; have HN5 := Lib.hid hn5; clear hn5 hO5) | (go_at_call 76; refine (rTimes_any A5 n5 c5 _ (wayN p) _ (hI5.bel (by (repeat (first | exact Bel.refl _ | assumption | refine Bel.drew ?_ | refine Bel.drewN ?_ _ | refine Bel.alloc ?_ _ | refine Bel.setCell ?_ (by first | omega | (simp; done) | (simp; omega) | (simp at *; omega)) _ | refine Bel.trans ?_ (by assumption))))) HN5.out.symm (by rw [HN5.out, HLX.out]; exact HM100.out) HBX.out).mono ?_; rintro e w6 ⟨v6, rfl, hO6, hb6⟩; obtain ⟨A6, n6, c6, rfl, hn6, hI6⟩ := hO6.form; have HN6 := Lib.hid hn6; clear hn6 hO6) | (go_at_call 45; refine (sameInts_all A6 B n6 c6 k d _ _ _ (hI6.bel (by (repeat (first | exact Bel.refl _ | assumption | refine Bel.drew ?_ | refine Bel.drewN ?_ _ | refine Bel.alloc ?_ _ | refine Bel.setCell ?_ (by first | omega | (simp; done) | (simp; omega) | (simp at *; omega)) _ | refine Bel.trans ?_ (by assumption))))) (hI4.bel (by (repeat (first | exact Bel.refl _ | assumption | refine Bel.drew ?_ | refine Bel.drewN ?_ _ | refine Bel.alloc ?_ _ | refine Bel.setCell ?_ (by first | omega | (simp; done) | (simp; omega) | (simp at *; omega)) _ | refine Bel.trans ?_ (by assumption))))) HN6.out.symm Hl.out (by rw [HN6.out, HTX.out]; exact HMX.out)).mono ?_; rintro e w7 ⟨rfl, hb7⟩; rw [HQ.out]))
            all_goals
              have hbo : Bel wo w7 := by (repeat (first | exact Bel.refl _ | assumption | refine Bel.drew ?_ | refine Bel.drewN ?_ _ | refine Bel.alloc ?_ _ | refine Bel.setCell ?_ (by first | omega | (simp; done) | (simp; omega) | (simp at *; omega)) _ | refine Bel.trans ?_ (by assumption)))
              have hbo4 : Bel w4 w7 := hb.trans hbo
              have hO7 : Own2 24 w4.heap.size w7 u12 (casesV n P l (p + 1)) := by rw [HNX.out]; exact ownsRow_bel hO1 hbo
              have HO7 := Lib.hid hO7
              clear hO7 hO hO1
              go_wp2
              go_roundw
              case rel => exact ⟨p + 1, by omega, by go_num, hbo4, HO7.out⟩
              case measure => simp [intOf]; omega
          · rw [hq, if_pos rfl] at hnx
            have HNX := Lib.hid hnx
            have HQ : Hid (decide (timesL (markL P (lotN p : Int)) (wayN p) = l) = true) := hq
            clear hnx hq
            go_wp2
            go_region_held3 (fun w' => Bel wo w' ∧ w'.cell? ⟨bc, oc + p * 2, none⟩ = some (.int .i64 (lotN p : Int)) ∧ w'.cell? ⟨bc, oc + p * 2 + 1, none⟩ = some (.int .i64 (wayN p))) (exact ⟨by (repeat (first | exact Bel.refl _ | assumption | refine Bel.drew ?_ | refine Bel.drewN ?_ _ | refine Bel.alloc ?_ _ | refine Bel.setCell ?_ (by first | omega | (simp; done) | (simp; omega) | (simp at *; omega)) _ | refine Bel.trans ?_ (by assumption))), Held2.out _ (by (repeat (first | exact Bel.refl _ | assumption | refine Bel.drew ?_ | refine Bel.drewN ?_ _ | refine Bel.alloc ?_ _ | refine Bel.setCell ?_ (by first | omega | (simp; done) | (simp; omega) | (simp at *; omega)) _ | refine Bel.trans ?_ (by assumption))))⟩) (first | (go_at_call 77; refine (rMark_any lo n A k c P (lotN p : Int) _ (hR4.bel (by (repeat (first | exact Bel.refl _ | assumption | refine Bel.drew ?_ | refine Bel.drewN ?_ _ | refine Bel.alloc ?_ _ | refine Bel.setCell ?_ (by first | omega | (simp; done) | (simp; omega) | (simp at *; omega)) _ | refine Bel.trans ?_ (by assumption))))) Hm.out HGo.out).mono ?_; rintro e w5 ⟨v5, rfl, hO5, hb5⟩; obtain ⟨A5, n5, c5, rfl, hn5, hI5⟩ := hO5.form; have HN5 := Lib.hid hn5; clear hn5 hO5) | (go_at_call 76; refine (rTimes_any A5 n5 c5 _ (wayN p) _ (hI5.bel (by (repeat (first | exact Bel.refl _ | assumption | refine Bel.drew ?_ | refine Bel.drewN ?_ _ | refine Bel.alloc ?_ _ | refine Bel.setCell ?_ (by first | omega | (simp; done) | (simp; omega) | (simp at *; omega)) _ | refine Bel.trans ?_ (by assumption))))) HN5.out.symm (by rw [HN5.out, HLX.out]; exact HM100.out) HBX.out).mono ?_; rintro e w6 ⟨v6, rfl, hO6, hb6⟩; obtain ⟨A6, n6, c6, rfl, hn6, hI6⟩ := hO6.form; have HN6 := Lib.hid hn6; clear hn6 hO6) | (go_at_call 45; refine (sameInts_all A6 B n6 c6 k d _ _ _ (hI6.bel (by (repeat (first | exact Bel.refl _ | assumption | refine Bel.drew ?_ | refine Bel.drewN ?_ _ | refine Bel.alloc ?_ _ | refine Bel.setCell ?_ (by first | omega | (simp; done) | (simp; omega) | (simp at *; omega)) _ | refine Bel.trans ?_ (by assumption))))) (hI4.bel (by (repeat (first | exact Bel.refl _ | assumption | refine Bel.drew ?_ | refine Bel.drewN ?_ _ | refine Bel.alloc ?_ _ | refine Bel.setCell ?_ (by first | omega | (simp; done) | (simp; omega) | (simp at *; omega)) _ | refine Bel.trans ?_ (by assumption))))) HN6.out.symm Hl.out (by rw [HN6.out, HTX.out]; exact HMX.out)).mono ?_; rintro e w7 ⟨rfl, hb7⟩; rw [HQ.out]))
            all_goals
              have hbo : Bel wo w7 := by (repeat (first | exact Bel.refl _ | assumption | refine Bel.drew ?_ | refine Bel.drewN ?_ _ | refine Bel.alloc ?_ _ | refine Bel.setCell ?_ (by first | omega | (simp; done) | (simp; omega) | (simp at *; omega)) _ | refine Bel.trans ?_ (by assumption)))
              have hbo4 : Bel w4 w7 := hb.trans hbo
              have hs7 := hbo4.size
              obtain ⟨k1, k2⟩ := Held2.out w7 hbo
              go_wp2_with (at_builtin; go_loud (refine wpList_append_lies _ rfl (.tmp 60) (.tmp 65) 55 rfl w4.heap.size 24 i0 _ 2 16 Try.underlying55 hi hz0 hz1 hz2 rfl (by decide) u12 ll.length (cel2 ll) (by rfl) ((ownsRow_bel hO1 hbo).alloc _) ⟨w7.heap.size, 0, none⟩ 1 1 [.int .i64 (lotN p : Int), .int .i64 (wayN p)] (by rfl) rfl (new2i _ _ _ _ _ rfl) (one2i _ _) (by omega) hX1.out hX2.out (by simp <;> omega) _ rfl ?_); intro g3 cap3 w8 hown3 hgr3 hat3 hlt3)
              have hB8 := grown_own (w := w4) (hbo4.alloc _) (ownsRow_bel hO1 hbo) (Nat.le_refl _) hgr3
              have hO8 : Own2 24 w4.heap.size w8 (.slice (some ⟨g3, 0, none⟩) (ll.length + 1) cap3) (casesV n P l (p + 1)) := by
                rw [HNX.out]
                unfold Own2
                rw [List.length_append, cel2_append]
                exact hown3
              have HO8 := Lib.hid hO8
              clear hown3 hgr3 hat3 hlt3 hO8 hO hO1
              go_roundw
              case rel => exact ⟨p + 1, by omega, by go_num, hB8, HO8.out⟩
              case measure => simp [intOf]; omega
        · obtain rfl : p = n * 2 := by omega
          rw [casesV_all] at hO
          obtain ⟨A', n', c', rfl, hn', hP, -⟩ := hO.form
          have hle : n' ≤ 26 := by
            rw [hn']
            refine Nat.le_trans (List.length_filter_le _ _) ?_
            rw [casesL_length]
            omega
          have HN := Lib.hid hn'.symm
          have HP := Lib.hid hP
          clear hn' hO hP
          go_wp2_with fail
          refine (rBlank_any B k d l _ ((hI.bel hbw4).bel hb) Hl.out (by unfold maxLen; omega)).mono ?_
          rintro e w5 ⟨rfl, hw5⟩
          subst hw5
          have HB := Lib.hid (hbw4.trans hb)
          go_wp2
          exact bodyPost_ret (v := .tuple #[.slice A' n' c', .bool (blankB l), .int .i64 0]) (by simp [results, Try.results46, go_sem]) rfl (casesRet_ok HK.out ⟨A', n', c', rfl, HB.out, HP.out, HN.out, hle⟩)
set_option maxRecDepth 100000 in
set_option maxHeartbeats 1000000 in
theorem rCases_any (lo : Nat) (n : Int) (A : Option Addr) (m c : Nat) (P : List Wg) (B : Option Addr) (q d : Nat) (l : List Int) (w : World) (hR : Plan lo w A P) (hm : P.length = m) (hI : Ints w B l) (hq : l.length = q) :
    Calls Try.prog 46 #[.int .i64 n, .slice A m c, .slice B q d] w (CasesRet w n P l) := by
  by_cases hE : errV n P = 0
  · by_cases hqm : q = m
    · subst hqm
      obtain ⟨n', rfl, hG⟩ := errV_good hE
      exact rCases_ok lo n' A q c P B d l w hR hm hG hI hq
    · have HK := Lib.hid (errK_arg (l := l) hE (fun h => hqm (by omega)))
      have HE := Lib.hid hE
      have Hm := Lib.hid hm
      have hne : ((q : Int) != (m : Int)) = true := by simp; omega
      have hne' : ¬ (q : Int) = (m : Int) := by omega
      clear hE hm hq
      go_enter Try.func46, Try.ntmps46
      go_wp2_with fail
      refine (rValidate_any lo _ A m c P _ hR Hm.out).mono ?_
      rintro e w1 ⟨rfl, hb1⟩
      rw [HE.out]
      go_wp2
      exact bodyPost_ret (v := .tuple #[.slice none 0 0, .bool false, .int .i64 1]) (by simp [results, Try.results46, go_sem]) rfl (casesRet_err HK.out (by decide) hb1)
  · have hE' : (errV n P != 0) = true := by simpa using hE
    have HK := Lib.hid (errK_bad (l := l) hE)
    have HN := Lib.hid hE
    obtain ⟨v, hv⟩ : ∃ v, v = errV n P := ⟨_, rfl⟩
    have HV := Lib.hid hv
    rw [← hv] at hE hE'
    have Hm := Lib.hid hm
    clear hm hv hq
    go_enter Try.func46, Try.ntmps46
    go_wp2_with fail
    refine (rValidate_any lo _ A m c P _ hR Hm.out).mono ?_
    rintro e w1 ⟨rfl, hb1⟩
    rw [← HV.out]
    go_wp2
    exact bodyPost_ret (v := .tuple #[.slice none 0 0, .bool false, .int .i64 v]) (by simp [results, Try.results46, go_sem]) rfl (casesRet_err (by rw [HK.out, ← HV.out]) (by rw [HV.out]; exact HN.out) hb1)
end Go.Proofs.Ytmckoehkekkldaa
