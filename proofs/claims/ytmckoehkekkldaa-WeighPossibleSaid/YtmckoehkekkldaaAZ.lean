/- Possible of the document, walked. -/
import Derived.Test.YtmckoehkekkldaaAY
namespace Go.Proofs.Ytmckoehkekkldaa
open Go.RowKit

theorem rowC_bd (P : List Wg) (x y : Int) (hy : y = 1 ∨ y = -1 ∨ y = 0) : ∀ v ∈ markL P x, -1 ≤ y * v ∧ y * v ≤ 1 := mark_bd P x y hy
/-- The cases are not where the lists are. -/
def Off (AC : Option Addr) (v : Value) : Prop := ∀ b o, AC = some ⟨b, o, none⟩ → v.ownBlock ≠ some b
theorem Prs.off {w w3 : World} {A : Option Addr} {gs : List (Int × Int)} {v : Value} (h : Prs w A gs) (hg : w.grownBy w3 v.ownBlock) (ho : Off A v) : Prs w3 A gs := by
  rcases h with h | ⟨b, o, rfl, hl, hc⟩
  · exact .inl h
  · have hk : w3.heap[b]? = w.heap[b]? := hg.block b hl (fun e => ho b o rfl e.symm)
    refine .inr ⟨b, o, rfl, Nat.lt_of_lt_of_le hl hg.size, fun j s m hj => ?_⟩
    obtain ⟨h1, h2⟩ := hc j s m hj
    exact ⟨(World.cell?_of_block (w := w) (a := ⟨b, o + j * 2, none⟩) hk).trans h1, (World.cell?_of_block (w := w) (a := ⟨b, o + j * 2 + 1, none⟩) hk).trans h2⟩
set_option maxRecDepth 100000 in
set_option maxHeartbeats 4000000 in
theorem rPossible_ok (lo n : Nat) (A : Option Addr) (m c : Nat) (P : List Wg) (w : World) (hR : Plan lo w A P) (hm : P.length = m) (hG : Good n P) :
    Calls Try.prog 66 #[.int .i64 (n : Int), .slice A m c] w fun e w' => e = .returned (.tuple #[.int .i64 (possN P n : Int), .int .i64 0]) ∧ Bel w w' := by
  obtain ⟨i0, hi, hz0, hz1, hz2⟩ := info_parts info1S
  have h3 := hG.few
  have hm3 : m ≤ 3 := by omega
  have hn13 := hG.le
  have hn1 := hG.pos
  have Hm := Lib.hid hm; have HGo := Lib.hid hG; have HE := Lib.hid hG.err; have H3 := Lib.hid h3
  clear hm hG h3
  go_enter Try.func66, Try.ntmps66
  go_wp2_with fail
  refine (rValidate_any lo _ A m c P _ hR Hm.out).mono ?_
  rintro e w1 ⟨rfl, hb1⟩
  rw [HE.out]
  go_wp2_with fail
  refine (rMark_any lo n A m c P 0 _ (hR.bel hb1) Hm.out HGo.out).mono ?_
  rintro e w2 ⟨v2, rfl, hO2, hb2⟩
  obtain ⟨A2, n2, c2, rfl, hn2, hI2⟩ := hO2.form
  rw [markL_length, Hm.out] at hn2
  subst hn2
  clear hO2
  go_wp2_with fail
  refine (rTimes_any A2 n2 c2 _ 0 _ hI2 (by rw [markL_length]; exact Hm.out) (by omega) (mark_bd P _ _ (.inr (.inr rfl)))).mono ?_
  rintro e w3 ⟨v3, rfl, hO3, hb3⟩
  obtain ⟨A3, n3, c3, rfl, hn3, hI3⟩ := hO3.form
  have hn3' : n3 = n2 := by rw [hn3, timesL, List.length_map, markL_length]; exact Hm.out
  subst hn3'
  have hb13 := (hb1.trans hb2).trans hb3
  have hs2 := (hb1.trans hb2).size
  have hs3 := hb13.size
  have hlit : OwnT w.heap.size (w3.alloc (.cells #[.slice A3 n3 c3] 28)) (.slice (some ⟨w3.heap.size, 0, none⟩) 1 1) [rowC P (0, 0)] :=
    OwnT.lit (r := rowC P (0, 0)) hI3 (by rw [rowC_len]; exact Hm.out) (by unfold maxLen; omega) hs3 (fun b o hA => by
      have := World.ownsRow.lt hO3 b (by rw [hA]; rfl)
      omega)
  have HLIT := Lib.hid hlit
  clear hn3 hO3 hI3 hI2 hb1 hb2 hb3 hlit
  go_wp2_with fail
  refine (rAll_any n _ hn13).mono ?_
  rintro e w5 ⟨AC, cc, rfl, hcap, hb5, hP5⟩
  have HP5 := Lib.hid hP5
  have HL5 := Lib.hid (HLIT.out.bel hb5)
  have hbw5 : Bel w w5 := (hb13.alloc _).trans hb5
  have hoff : Off AC (.slice (some ⟨w3.heap.size, 0, none⟩) 1 1) := fun b o hA e => by
    have e' : some w3.heap.size = some b := e
    injection e' with e'
    subst e'
    obtain ⟨b', o', hA', hbl, k1, k2⟩ := hP5.case (i := 0) (by omega)
    rw [hA] at hA'
    injection hA' with hA'
    injection hA' with f1 f2 f3
    subst f1 f2
    rw [hb5.use.1 _ _ (by simp)] at k2
    simp at k2
  have HOFF := Lib.hid hoff
  clear hP5 hoff HLIT hb5 hb13
  go_wp2
  go_loopw [7, 9, 10, 11, 12] (fun v i _ _ _ wr => ∃ k : Nat, k ≤ n * 2 ∧ i = .int .i64 k ∧ Bel w wr ∧ Prs wr AC (casesL n) ∧ Off AC v ∧ ∃ F, OwnT w.heap.size wr v F ∧ Found P n (k + 1) F) (fun _ i _ _ _ _ => n * 2 - (intOf i).toNat)
  case atStart => exact ⟨0, Nat.zero_le _, rfl, hbw5, HP5.out, HOFF.out, _, HL5.out, Found.start P n⟩
  case round =>
    clear HP5 HOFF HL5 hbw5
    obtain ⟨k, hk, rfl, hb, hPr, hof, F, hO, hF⟩ := hrel
    obtain ⟨AF, nF, cF, rfl, hnF, hTF⟩ := hO.form
    have hfew := hF.few
    have HNF := Lib.hid hnF.symm
    have HO := Lib.hid hO; have HF := Lib.hid hF; have HTF := Lib.hid hTF; have HOF := Lib.hid hof; have HPR := Lib.hid hPr
    have hnF27 : nF ≤ 27 := by omega
    clear hO hF hTF hof hnF
    by_cases hlt : k < n * 2
    · obtain ⟨bc, oc, rfl, hbc, c1, c2'⟩ := hPr.case hlt
      have hki : (k : Int) < ((n * 2 : Nat) : Int) := by omega
      have hk0 : (0 : Int) ≤ (k : Int) := by omega
      obtain ⟨wo, hwo⟩ : ∃ wo : World, wo = wr := ⟨_, rfl⟩
      subst hwo
      have Held2 : Hid (∀ w', Bel wo w' → w'.cell? ⟨bc, oc + k * 2, none⟩ = some (.int .i64 (lotN k : Int)) ∧ w'.cell? ⟨bc, oc + k * 2 + 1, none⟩ = some (.int .i64 (wayN k))) := fun w' h => ⟨by rw [h.use.1 _ _ hbc]; exact c1, by rw [h.use.1 _ _ hbc]; exact c2'⟩
      obtain ⟨d1, d2⟩ := Held2.out wo (Bel.refl _)
      have HBX := Lib.hid (mark_bd P (lotN k : Int) (wayN k) (by rcases wayN_or k with h | h; exact .inl h; exact .inr (.inl h)))
      have HLX : Hid ((markL P (lotN k : Int)).length = n3) := by show _ = _; rw [markL_length]; exact Hm.out
      have HM100 := Lib.hid (show n3 ≤ 100 by omega)
      have hR4 := hR.bel hb
      clear c1 c2' hPr
      go_wp2
      go_region_held3 (fun w' => Bel wo w' ∧ w'.cell? ⟨bc, oc + k * 2, none⟩ = some (.int .i64 (lotN k : Int)) ∧ w'.cell? ⟨bc, oc + k * 2 + 1, none⟩ = some (.int .i64 (wayN k))) (exact ⟨by (repeat (first | exact Bel.refl _ | assumption | refine Bel.drew ?_ | refine Bel.drewN ?_ _ | refine Bel.alloc ?_ _ | refine Bel.setCell ?_ (by first | omega | (simp; done) | (simp; omega) | (simp at *; omega)) _ | refine Bel.trans ?_ (by assumption))), Held2.out _ (by (repeat (first | exact Bel.refl _ | assumption | refine Bel.drew ?_ | refine Bel.drewN ?_ _ | refine Bel.alloc ?_ _ | refine Bel.setCell ?_ (by first | omega | (simp; done) | (simp; omega) | (simp at *; omega)) _ | refine Bel.trans ?_ (by assumption))))⟩) (first | (go_at_call 77; refine (rMark_any lo n A n3 c P (lotN k : Int) _ (hR4.bel (by (repeat (first | exact Bel.refl _ | assumption | refine Bel.drew ?_ | refine Bel.drewN ?_ _ | refine Bel.alloc ?_ _ | refine Bel.setCell ?_ (by first | omega | (simp; done) | (simp; omega) | (simp at *; omega)) _ | refine Bel.trans ?_ (by assumption))))) Hm.out HGo.out).mono ?_; rintro e w6 ⟨v6, rfl, hO6, hb6⟩; obtain ⟨A6, n6, c6, rfl, hn6, hI6⟩ := hO6.form; have HN6 := Lib.hid hn6; clear hn6 hO6) | (go_at_call 76; refine (rTimes_any A6 n6 c6 _ (wayN k) _ (hI6.bel (by (repeat (first | exact Bel.refl _ | assumption | refine Bel.drew ?_ | refine Bel.drewN ?_ _ | refine Bel.alloc ?_ _ | refine Bel.setCell ?_ (by first | omega | (simp; done) | (simp; omega) | (simp at *; omega)) _ | refine Bel.trans ?_ (by assumption))))) HN6.out.symm (by rw [HN6.out, HLX.out]; exact HM100.out) HBX.out).mono ?_; rintro e w7 ⟨v7, rfl, hO7, hb7⟩; obtain ⟨A7, n7, c7, rfl, hn7, hI7⟩ := hO7.form; have HN7 := Lib.hid hn7; have HO7 := Lib.hid hO7; clear hn7 hO7))
      all_goals
        have hbo : Bel wo w7 := by (repeat (first | exact Bel.refl _ | assumption | refine Bel.drew ?_ | refine Bel.drewN ?_ _ | refine Bel.alloc ?_ _ | refine Bel.setCell ?_ (by first | omega | (simp; done) | (simp; omega) | (simp at *; omega)) _ | refine Bel.trans ?_ (by assumption)))
        have hbw7 := hb.trans hbo
        have hso := hb.size
        have hn7 : n7 = n3 := by rw [HN7.out, timesL, List.length_map, HLX.out]
        subst hn7
        have hr7 : (rowC P ((lotN k : Int), wayN k)).length = n7 := by rw [rowC_len]; exact Hm.out
        have hf7 : ∀ b o, A7 = some ⟨b, o, none⟩ → wo.heap.size ≤ b ∧ b < w7.heap.size := fun b o hA => by
          have h1 := World.ownsRow.lt HO7.out b (by rw [hA]; rfl)
          have h2 := hb6.size
          simp at h2
          omega
        have HF7 := Lib.hid hf7
        obtain ⟨r, hr⟩ : ∃ r, r = rowC P ((lotN k : Int), wayN k) := ⟨_, rfl⟩
        have hI7' : Ints w7 A7 r := by rw [hr]; exact hI7
        rw [← hr] at hr7
        have HR := Lib.hid hr; have HR7 := Lib.hid hr7
        have hT7 := HTF.out.bel hbo
        clear hr hr7 hf7 hI7 hb6 hb7 d1 d2 hI6 hR4
        go_wp2
        go_loopw [11, 12] (fun f i wr => ∃ j : Nat, j ≤ nF ∧ i = .int .i64 j ∧ f = .bool (decide (r ∉ F.take j)) ∧ Bel w7 wr) (fun _ i _ => nF - (intOf i).toNat)
        case atStart => exact ⟨0, Nat.zero_le _, rfl, by simp, Bel.refl _⟩
        case round =>
          obtain ⟨j, hj, rfl, rfl, hbj⟩ := hrel
          by_cases hjl : j < nF
          · obtain ⟨b, o, ns, A1, n1, c1, rfl, hbl, hg, q1, hI1, hl1, hx1⟩ := (hT7.bel hbj).at_ (k := j) (by rw [HNF.out]; exact hjl)
            have hji : (j : Int) < (nF : Int) := by omega
            have hj0 : (0 : Int) ≤ (j : Int) := by omega
            have hnm := not_mem_take (r := r) hg
            have hn1 : n1 = n7 := by rw [← hl1, HF.out.rows ns (List.mem_of_getElem? hg)]; exact Hm.out
            subst hn1
            have HL1 := Lib.hid hl1
            clear hg hl1 hT7
            cases hfr : decide (r ∉ F.take j)
            · rw [hfr, Bool.false_and] at hnm
              have HNM := Lib.hid hnm
              clear hnm hfr
              go_wp2
              go_roundw
              case rel => exact ⟨j + 1, by omega, by go_num, by rw [HNM.out]; try rfl, hbj⟩
              case measure => simp [intOf]; omega
            · rw [hfr, Bool.true_and] at hnm
              have HNM := Lib.hid hnm
              clear hnm hfr
              go_wp2_with (first | (go_at_call 45; refine (sameInts_all A1 A7 n1 c1 n1 c7 ns r _ hI1 (hI7'.bel hbj) HL1.out HR7.out (by unfold maxLen; omega)).mono ?_; rintro e w8 ⟨rfl, hb8⟩))
              go_roundw
              case rel => exact ⟨j + 1, by omega, by go_num, by rw [HNM.out]; try rfl, hbj.trans hb8⟩
              case measure => simp [intOf]; omega
          · obtain rfl : nF = j := by omega
            have hall : F.take nF = F := List.take_of_length_le (by rw [HNF.out]; omega)
            rw [hall]
            have hB := hbw7.trans hbj
            have hBo := hbo.trans hbj
            by_cases hmem : r ∈ F
            · have hdm : decide (r ∉ F) = false := by simpa using hmem
              have HM := Lib.hid (HF.out.old hlt (by rw [← HR.out]; exact hmem))
              rw [hdm]
              clear hmem hdm hall hT7
              go_wp2
              go_roundw
              case rel => exact ⟨k + 1, by omega, by go_num, hB, HPR.out.bel hBo, HOF.out, F, HO.out.bel hBo, HM.out⟩
              case measure => simp [intOf]; omega
            · have hdm : decide (r ∉ F) = true := by simpa using hmem
              have HM := Lib.hid (HF.out.fresh hlt (by rw [← HR.out]; exact hmem))
              rw [hdm]
              have hpo := HO.out
              obtain ⟨vs, hps⟩ := hpo
              have hpb := hps.bel hBo
              have hO1 := hpb.own
              rw [HNF.out] at hO1
              have HPB := Lib.hid hpb
              have hown0 := hps.own
              have HP := Lib.hid (fun b (hb' : (Value.slice AF nF cF).ownBlock = some b) => (World.ownsRow.lt hown0 b hb').2)
              have hX1 := Lib.hid (show nF + 1 ≤ maxLen by unfold maxLen; omega)
              have hX2 := Lib.hid (show (nF + 1) * 24 ≤ 140737488355328 by omega)
              have hsb := hB.size
              have hsw := hBo.size
              have hIr := hI7'.bel hbj
              have hsj := hbj.size
              clear hmem hdm hall hT7 hps hpb hown0
              go_wp2_with (at_builtin; go_loud (refine wpList_append_lies _ rfl (.tmp 61) (.tmp 63) 33 rfl w.heap.size 28 i0 _ 1 24 Try.underlying33 hi hz0 hz1 hz2 rfl (by decide) (.slice AF nF cF) nF vs (by rfl) (hO1.alloc _) ⟨wr.heap.size, 0, none⟩ 1 1 [.slice A7 n7 c7] (by rfl) rfl (newS _ _ _ _ rfl) (oneS _ _ _) (by omega) hX1.out hX2.out (by simp <;> omega) _ rfl ?_); intro g3 cap3 w9 hown3 hgr3 hat3 hlt3)
              have hO3 := OwnTV.snoc (g := g3) (HPB.out.bel ((Bel.refl wr).alloc _)) (hIr.bel ((Bel.refl wr).alloc _)) HR7.out (by unfold maxLen; omega) (fun b o hA => ⟨by have := (HF7.out b o hA).2; simp; omega, fun e => by have h1 := HP.out b e; have h2 := (HF7.out b o hA).1; omega, by have h2 := (HF7.out b o hA).1; omega⟩) (by rw [HNF.out]; exact hown3) hgr3 (by simpa using hat3)
              have hB9 := grown_own (w := w) (hB.alloc _) hO1 (Nat.le_refl _) hgr3
              have hP9 : Prs w9 (some ⟨bc, oc, none⟩) (casesL n) := (HPR.out.bel (hBo.alloc _)).off hgr3 HOF.out
              have hF9 : Off (some ⟨bc, oc, none⟩) (.slice (some ⟨g3, 0, none⟩) (nF + 1) cap3) := fun b o hA e => by
                injection hA with hA
                injection hA with f1 f2 f3
                subst f1 f2
                have e' : some g3 = some bc := e
                injection e' with e'
                subst e'
                rcases hat3 with h | h
                · exact HOF.out _ _ rfl h
                · simp at h
                  omega
              rw [HNF.out, HR.out] at hO3
              have HO3 := Lib.hid hO3; have HP9 := Lib.hid hP9; have HF9 := Lib.hid hF9
              clear hown3 hgr3 hat3 hlt3 hO1 hO3 hP9 hF9 hIr
              go_wp2
              go_roundw
              case rel => exact ⟨k + 1, by omega, by go_num, hB9, HP9.out, HF9.out, _, HO3.out, HM.out⟩
              case measure => simp [intOf]; omega
    · obtain rfl : k = n * 2 := by omega
      have HD : Hid ((nF : Int) = (possN P n : Int)) := by
        show (nF : Int) = _
        rw [← HNF.out, HF.out.done H3.out]
      clear hPr
      go_wp2
      exact bodyPost_ret (v := .tuple #[.int .i64 (nF : Int), .int .i64 0]) (by simp [results, Try.results66, go_sem]) rfl ⟨by rw [HD.out], hb⟩
end Go.Proofs.Ytmckoehkekkldaa
