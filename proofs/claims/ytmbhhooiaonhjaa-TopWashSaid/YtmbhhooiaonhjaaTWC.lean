/-
  The statement TopWashSaid: for any lots, pot and moves what sinks and what stays is all; more settlings leave no more above; a lot is finer exactly if moves lead to it, with the work that its sums tell; the lists stay as they were in their spare cells, too. No condition.
-/
import Derived.Test.YtmbhhooiaonhjaaSK
import Derived.Deep.RegionHeld3
import Derived.Deep.RegionWith
import Derived.Deep.DeepCutAuto
namespace Go.Proofs.Ytmbhhooiaonhjaa.topWash
open Go.ChangeShapes Go.WideShapes Go.ChangeAt Go.RowKit Go.Joins

theorem boxes3 {w w' : World} {v0 v1 v2 : Value} {t d : Int} {ty ty' : TypeId} (h : Bel ((w.alloc (.cells #[v0, v1, v2] ty)).alloc (.cells #[.int .i64 t, .int .i64 d] ty')) w') :
    w'.cell? ⟨w.heap.size, 0, none⟩ = some v0 ∧ w'.cell? ⟨w.heap.size, 1, none⟩ = some v1 ∧ w'.cell? ⟨w.heap.size, 2, none⟩ = some v2 ∧ w'.cell? ⟨w.heap.size + 1, 0, none⟩ = some (.int .i64 t) ∧ w'.cell? ⟨w.heap.size + 1, 1, none⟩ = some (.int .i64 d) := by
  refine ⟨?_, ?_, ?_, ?_, ?_⟩ <;> (rw [h.use.1 _ _ (by simp <;> omega)]; go_simp)

set_option maxRecDepth 100000 in
set_option maxHeartbeats 16000000 in
theorem main3 (A B C : Option Addr) (n c m e l k : Nat) (gs hs : List (Int × Int)) (ms : List (Int × Int × Int)) (t d T : Int) (w : World) (hR : Prs w A gs) (hS : Prs w B hs) (hV : Trs w C ms) (hn : gs.length = n) (hm : hs.length = m) (hl : ms.length = l) (h40 : ¬ 40 < n) (h41 : ¬ 40 < m) (h60 : ¬ 60 < l) (he : errV gs = 0) (hg : (within t 0 100 && within d 1 20) = false) :
    Calls Try.prog 13 #[.agg #[.slice A n c, .slice B m e, .slice C l k], .agg #[.int .i64 t, .int .i64 d], .int .i64 T] w fun e w' => e = .returned (.bool true) ∧ Bel w w' := by
  have hk : decide (40 < n) = false := by simpa using h40
  have hk2 : decide (40 < m) = false := by simpa using h41
  have h60i : ¬ (60 : Int) < (l : Int) := by omega
  have hmax : n ≤ maxLen := by unfold maxLen; omega
  have hmax2 : m ≤ maxLen := by unfold maxLen; omega
  have hmax3 : l ≤ maxLen := by unfold maxLen; omega
  clear h40 h41 h60
  have Hn := Lib.hid hn; have Hm := Lib.hid hm; have Hl := Lib.hid hl; have HE := Lib.hid he; have HMG := Lib.hid (mass_of he); have HF := Lib.hid (fit_of gs he)
  have hn6 : n ≤ 6 := by have := (errV_zero he).1; omega
  clear hn hm hl he

  have HSE := Lib.hid hg
  have HWA : Hid ((within t 0 100 && within d 1 20 && within T 1 4) = false) := by show _ = _; rw [hg]; rfl
  clear hg

  have Held := Lib.hid (fun w' h => boxes3 (w := w) (v0 := .slice A n c) (v1 := .slice B m e) (v2 := .slice C l k) (t := t) (d := d) (ty := 34) (ty' := 30) (w' := w') h)
  have P1 := Lib.hid (congrArg Prod.fst part1); have P2 := Lib.hid (congrArg Prod.snd part1)
  simp only [nd] at P1 P2

  go_enter Try.func13, Try.ntmps13
  go_wp2_with fail
  refine (wpart_yes 3 2 10 _ (by decide)).mono ?_
  rintro e w1 ⟨rfl, hb1⟩
  rw [P1.out, P2.out]
  have hbw1 : Bel w w1 := by (repeat (first | exact Bel.refl _ | assumption | refine Bel.drew ?_ | refine Bel.drewN ?_ _ | refine Bel.alloc ?_ _ | refine Bel.setCell ?_ (by first | omega | (simp; done) | (simp; omega) | (simp at *; omega)) _ | refine Bel.trans ?_ (by assumption)))
  have held1 : ∀ w', Bel w1 w' → w'.cell? ⟨w.heap.size, 0, none⟩ = some (.slice A n c) ∧ w'.cell? ⟨w.heap.size, 1, none⟩ = some (.slice B m e) ∧ w'.cell? ⟨w.heap.size, 2, none⟩ = some (.slice C l k) ∧ w'.cell? ⟨w.heap.size + 1, 0, none⟩ = some (.int .i64 t) ∧ w'.cell? ⟨w.heap.size + 1, 1, none⟩ = some (.int .i64 d) := fun w' h => Held.out w' (hb1.trans h)
  have Held1 := Lib.hid held1
  clear held1
  have hR1 := hR.bel hbw1
  have hS1 := hS.bel hbw1
  have hV1 := hV.bel hbw1
  obtain ⟨c0, c1, c2, c3, c4⟩ := Held1.out w1 (Bel.refl _)
  obtain ⟨d0, d1, d2, d3, d4⟩ := Held1.out (w1.alloc (.cells #[.int .i64 3, .int .i64 5] 46)) ((Bel.refl _).alloc _)

  go_wp2_with (go_at_call 15; refine (long_any _ _ _ _).mono ?_; rintro e w' ⟨rfl, rfl⟩)
  refine (wMass_any A n c gs _ (hR1.bel (by (repeat (first | exact Bel.refl _ | assumption | refine Bel.drew ?_ | refine Bel.drewN ?_ _ | refine Bel.alloc ?_ _ | refine Bel.setCell ?_ (by first | omega | (simp; done) | (simp; omega) | (simp at *; omega)) _ | refine Bel.trans ?_ (by assumption))))) Hn.out hmax).mono ?_
  rintro e w2 ⟨rfl, hb2⟩
  rw [HMG.out, HE.out]
  clear d0 d1 d2 d3 d4
  clear c0 c1 c2 c3 c4
  obtain ⟨c0, c1, c2, c3, c4⟩ := Held1.out w2 (by (repeat (first | exact Bel.refl _ | assumption | refine Bel.drew ?_ | refine Bel.drewN ?_ _ | refine Bel.alloc ?_ _ | refine Bel.setCell ?_ (by first | omega | (simp; done) | (simp; omega) | (simp at *; omega)) _ | refine Bel.trans ?_ (by assumption))))

  go_wp2_with fail
  refine (settle_err A n c gs t d _ (hR1.bel (by (repeat (first | exact Bel.refl _ | assumption | refine Bel.drew ?_ | refine Bel.drewN ?_ _ | refine Bel.alloc ?_ _ | refine Bel.setCell ?_ (by first | omega | (simp; done) | (simp; omega) | (simp at *; omega)) _ | refine Bel.trans ?_ (by assumption))))) Hn.out hmax 1 (.inr ⟨HE.out, HSE.out, rfl⟩)).mono ?_
  rintro e w3 ⟨rfl, hb3⟩
  clear c0 c1 c2 c3 c4
  obtain ⟨c0, c1, c2, c3, c4⟩ := Held1.out w3 (by (repeat (first | exact Bel.refl _ | assumption | refine Bel.drew ?_ | refine Bel.drewN ?_ _ | refine Bel.alloc ?_ _ | refine Bel.setCell ?_ (by first | omega | (simp; done) | (simp; omega) | (simp at *; omega)) _ | refine Bel.trans ?_ (by assumption))))
  go_wp2_with fail
  refine (wash_err A n c gs t d T _ (hR1.bel (by (repeat (first | exact Bel.refl _ | assumption | refine Bel.drew ?_ | refine Bel.drewN ?_ _ | refine Bel.alloc ?_ _ | refine Bel.setCell ?_ (by first | omega | (simp; done) | (simp; omega) | (simp at *; omega)) _ | refine Bel.trans ?_ (by assumption))))) Hn.out hmax 1 (.inr ⟨HE.out, HWA.out, rfl⟩)).mono ?_
  rintro e w4 ⟨rfl, hb4⟩
  clear c0 c1 c2 c3 c4
  obtain ⟨c0, c1, c2, c3, c4⟩ := Held1.out w4 (by (repeat (first | exact Bel.refl _ | assumption | refine Bel.drew ?_ | refine Bel.drewN ?_ _ | refine Bel.alloc ?_ _ | refine Bel.setCell ?_ (by first | omega | (simp; done) | (simp; omega) | (simp at *; omega)) _ | refine Bel.trans ?_ (by assumption))))
  go_wp2_with fail

  refine (wFiner_any A B n c m e gs hs _ (hR1.bel (by (repeat (first | exact Bel.refl _ | assumption | refine Bel.drew ?_ | refine Bel.drewN ?_ _ | refine Bel.alloc ?_ _ | refine Bel.setCell ?_ (by first | omega | (simp; done) | (simp; omega) | (simp at *; omega)) _ | refine Bel.trans ?_ (by assumption))))) (hS1.bel (by (repeat (first | exact Bel.refl _ | assumption | refine Bel.drew ?_ | refine Bel.drewN ?_ _ | refine Bel.alloc ?_ _ | refine Bel.setCell ?_ (by first | omega | (simp; done) | (simp; omega) | (simp at *; omega)) _ | refine Bel.trans ?_ (by assumption))))) Hn.out Hm.out hmax hmax2).mono ?_
  rintro e w20 ⟨rfl, hb20⟩
  unfold boolE
  clear c0 c1 c2 c3 c4
  obtain ⟨c0, c1, c2, c3, c4⟩ := Held1.out w20 (by (repeat (first | exact Bel.refl _ | assumption | refine Bel.drew ?_ | refine Bel.drewN ?_ _ | refine Bel.alloc ?_ _ | refine Bel.setCell ?_ (by first | omega | (simp; done) | (simp; omega) | (simp at *; omega)) _ | refine Bel.trans ?_ (by assumption))))
  cases hf : (finV gs hs).1
  · have HFV := Lib.hid hf
    have HWE : Hid (workE gs hs = .tuple #[.int .i64 0, .bool false, .int .i64 (finV gs hs).2]) := by show _ = _; unfold workE; rw [if_neg (by rw [hf]; decide)]
    clear hf
    go_wp2_with fail
    refine (wMoves_no A B n c m e gs hs _ (hR1.bel (by (repeat (first | exact Bel.refl _ | assumption | refine Bel.drew ?_ | refine Bel.drewN ?_ _ | refine Bel.alloc ?_ _ | refine Bel.setCell ?_ (by first | omega | (simp; done) | (simp; omega) | (simp at *; omega)) _ | refine Bel.trans ?_ (by assumption))))) (hS1.bel (by (repeat (first | exact Bel.refl _ | assumption | refine Bel.drew ?_ | refine Bel.drewN ?_ _ | refine Bel.alloc ?_ _ | refine Bel.setCell ?_ (by first | omega | (simp; done) | (simp; omega) | (simp at *; omega)) _ | refine Bel.trans ?_ (by assumption))))) Hn.out Hm.out hmax hmax2 HFV.out).mono ?_
    rintro e w21 ⟨rfl, hb21⟩
    clear c0 c1 c2 c3 c4
    obtain ⟨c0, c1, c2, c3, c4⟩ := Held1.out w21 (by (repeat (first | exact Bel.refl _ | assumption | refine Bel.drew ?_ | refine Bel.drewN ?_ _ | refine Bel.alloc ?_ _ | refine Bel.setCell ?_ (by first | omega | (simp; done) | (simp; omega) | (simp at *; omega)) _ | refine Bel.trans ?_ (by assumption))))
    go_wp2_with fail
    refine (wWork_any A B n c m e gs hs _ (hR1.bel (by (repeat (first | exact Bel.refl _ | assumption | refine Bel.drew ?_ | refine Bel.drewN ?_ _ | refine Bel.alloc ?_ _ | refine Bel.setCell ?_ (by first | omega | (simp; done) | (simp; omega) | (simp at *; omega)) _ | refine Bel.trans ?_ (by assumption))))) (hS1.bel (by (repeat (first | exact Bel.refl _ | assumption | refine Bel.drew ?_ | refine Bel.drewN ?_ _ | refine Bel.alloc ?_ _ | refine Bel.setCell ?_ (by first | omega | (simp; done) | (simp; omega) | (simp at *; omega)) _ | refine Bel.trans ?_ (by assumption))))) Hn.out Hm.out hmax hmax2).mono ?_
    rintro e w22 ⟨rfl, hb22⟩
    rw [HWE.out]
    generalize (finV gs hs).2 = fe at *
    clear c0 c1 c2 c3 c4
    obtain ⟨c0, c1, c2, c3, c4⟩ := Held1.out w22 (by (repeat (first | exact Bel.refl _ | assumption | refine Bel.drew ?_ | refine Bel.drewN ?_ _ | refine Bel.alloc ?_ _ | refine Bel.setCell ?_ (by first | omega | (simp; done) | (simp; omega) | (simp at *; omega)) _ | refine Bel.trans ?_ (by assumption))))
    go_wp2_with fail
    refine (wGrind_any B C m e l k hs ms _ (hS1.bel (by (repeat (first | exact Bel.refl _ | assumption | refine Bel.drew ?_ | refine Bel.drewN ?_ _ | refine Bel.alloc ?_ _ | refine Bel.setCell ?_ (by first | omega | (simp; done) | (simp; omega) | (simp at *; omega)) _ | refine Bel.trans ?_ (by assumption))))) (hV1.bel (by (repeat (first | exact Bel.refl _ | assumption | refine Bel.drew ?_ | refine Bel.drewN ?_ _ | refine Bel.alloc ?_ _ | refine Bel.setCell ?_ (by first | omega | (simp; done) | (simp; omega) | (simp at *; omega)) _ | refine Bel.trans ?_ (by assumption))))) Hm.out Hl.out hmax2 hmax3).mono ?_
    rintro e w30 hG
    by_cases hE : grindE hs ms = 0
    · obtain ⟨f1, f2, G, f3, f4⟩ := grindE_zero hE
      obtain ⟨A5, n5, c5, rfl, hn5, hnc, hc5, hb30, hp5⟩ := hG.ok f1 f2 f3 f4
      have hfin := grind_fin f1 f4 f3 (movV_zero f2).2
      have hF5 : errF (lotF G) hs = 0 := (finV_true (by rw [hfin])).1
      have HMM : Hid (belowV (lotF G) 20 = sumM hs ∧ belowV hs 20 = sumM hs) := by
        obtain ⟨_, _, q3⟩ := errF_zero hF5
        exact ⟨by rw [mass_of f4, q3], mass_of f1⟩
      have HCK : Hid (checkE (lotF G) hs ms = 0) := by
        show _ = _
        unfold checkE
        rw [if_pos hF5, if_pos hE, f3]
        simp [same]
      have HFIN := Lib.hid hfin; have HF4 := Lib.hid f4; have HF1 := Lib.hid f1; have HN5 := Lib.hid hn5
      have hn56 : n5 ≤ maxLen := Nat.le_trans hnc hc5
      clear hG hE f1 f2 f3 f4 hfin hF5 hn5
      clear c0 c1 c2 c3 c4
      obtain ⟨c0, c1, c2, c3, c4⟩ := Held1.out w30 (by (repeat (first | exact Bel.refl _ | assumption | refine Bel.drew ?_ | refine Bel.drewN ?_ _ | refine Bel.alloc ?_ _ | refine Bel.setCell ?_ (by first | omega | (simp; done) | (simp; omega) | (simp at *; omega)) _ | refine Bel.trans ?_ (by assumption))))
      go_wp2_with fail
      refine (wFiner_any A5 B n5 c5 m e (lotF G) hs _ hp5 (hS1.bel (by (repeat (first | exact Bel.refl _ | assumption | refine Bel.drew ?_ | refine Bel.drewN ?_ _ | refine Bel.alloc ?_ _ | refine Bel.setCell ?_ (by first | omega | (simp; done) | (simp; omega) | (simp at *; omega)) _ | refine Bel.trans ?_ (by assumption))))) HN5.out.symm Hm.out hn56 hmax2).mono ?_
      rintro e w31 ⟨rfl, hb31⟩
      rw [HFIN.out]
      unfold boolE
      clear c0 c1 c2 c3 c4
      obtain ⟨c0, c1, c2, c3, c4⟩ := Held1.out w31 (by (repeat (first | exact Bel.refl _ | assumption | refine Bel.drew ?_ | refine Bel.drewN ?_ _ | refine Bel.alloc ?_ _ | refine Bel.setCell ?_ (by first | omega | (simp; done) | (simp; omega) | (simp at *; omega)) _ | refine Bel.trans ?_ (by assumption))))
      go_wp2_with fail
      refine (wMass_any A5 n5 c5 (lotF G) _ (hp5.bel (by (repeat (first | exact Bel.refl _ | assumption | refine Bel.drew ?_ | refine Bel.drewN ?_ _ | refine Bel.alloc ?_ _ | refine Bel.setCell ?_ (by first | omega | (simp; done) | (simp; omega) | (simp at *; omega)) _ | refine Bel.trans ?_ (by assumption))))) HN5.out.symm hn56).mono ?_
      rintro e w32 ⟨rfl, hb32⟩
      rw [HMM.out.1, HF4.out]
      clear c0 c1 c2 c3 c4
      obtain ⟨c0, c1, c2, c3, c4⟩ := Held1.out w32 (by (repeat (first | exact Bel.refl _ | assumption | refine Bel.drew ?_ | refine Bel.drewN ?_ _ | refine Bel.alloc ?_ _ | refine Bel.setCell ?_ (by first | omega | (simp; done) | (simp; omega) | (simp at *; omega)) _ | refine Bel.trans ?_ (by assumption))))
      go_wp2_with fail
      refine (wMass_any B m e hs _ (hS1.bel (by (repeat (first | exact Bel.refl _ | assumption | refine Bel.drew ?_ | refine Bel.drewN ?_ _ | refine Bel.alloc ?_ _ | refine Bel.setCell ?_ (by first | omega | (simp; done) | (simp; omega) | (simp at *; omega)) _ | refine Bel.trans ?_ (by assumption))))) Hm.out hmax2).mono ?_
      rintro e w33 ⟨rfl, hb33⟩
      rw [HMM.out.2, HF1.out]
      clear c0 c1 c2 c3 c4
      obtain ⟨c0, c1, c2, c3, c4⟩ := Held1.out w33 (by (repeat (first | exact Bel.refl _ | assumption | refine Bel.drew ?_ | refine Bel.drewN ?_ _ | refine Bel.alloc ?_ _ | refine Bel.setCell ?_ (by first | omega | (simp; done) | (simp; omega) | (simp at *; omega)) _ | refine Bel.trans ?_ (by assumption))))
      go_wp2_with fail
      refine (wCheck_any A5 B C n5 c5 m e l k (lotF G) hs ms _ (hp5.bel (by (repeat (first | exact Bel.refl _ | assumption | refine Bel.drew ?_ | refine Bel.drewN ?_ _ | refine Bel.alloc ?_ _ | refine Bel.setCell ?_ (by first | omega | (simp; done) | (simp; omega) | (simp at *; omega)) _ | refine Bel.trans ?_ (by assumption))))) (hS1.bel (by (repeat (first | exact Bel.refl _ | assumption | refine Bel.drew ?_ | refine Bel.drewN ?_ _ | refine Bel.alloc ?_ _ | refine Bel.setCell ?_ (by first | omega | (simp; done) | (simp; omega) | (simp at *; omega)) _ | refine Bel.trans ?_ (by assumption))))) (hV1.bel (by (repeat (first | exact Bel.refl _ | assumption | refine Bel.drew ?_ | refine Bel.drewN ?_ _ | refine Bel.alloc ?_ _ | refine Bel.setCell ?_ (by first | omega | (simp; done) | (simp; omega) | (simp at *; omega)) _ | refine Bel.trans ?_ (by assumption))))) HN5.out.symm Hm.out Hl.out hn56 hmax2 hmax3).mono ?_
      rintro e w34 ⟨rfl, hb34⟩
      rw [HCK.out]
      go_wp2
      go_ret
      exact ⟨rfl, by (repeat (first | exact Bel.refl _ | assumption | refine Bel.drew ?_ | refine Bel.drewN ?_ _ | refine Bel.alloc ?_ _ | refine Bel.setCell ?_ (by first | omega | (simp; done) | (simp; omega) | (simp at *; omega)) _ | refine Bel.trans ?_ (by assumption)))⟩
    · obtain ⟨rfl, hb30⟩ := hG.err hE
      obtain ⟨ge, hge⟩ : ∃ ge, ge = grindE hs ms := ⟨_, rfl⟩
      rw [← hge] at hE ⊢
      have hne : (ge != 0) = true := by simpa using hE
      clear hge hE hG
      go_wp2
      go_ret
      exact ⟨rfl, by (repeat (first | exact Bel.refl _ | assumption | refine Bel.drew ?_ | refine Bel.drewN ?_ _ | refine Bel.alloc ?_ _ | refine Bel.setCell ?_ (by first | omega | (simp; done) | (simp; omega) | (simp at *; omega)) _ | refine Bel.trans ?_ (by assumption)))⟩
  · obtain ⟨v1, v2, v3⟩ := finV_true hf
    obtain ⟨z1, z2, z3⟩ := errF_zero v1
    have HFV := Lib.hid hf; have HV3 := Lib.hid v3
    have HWE : Hid (workE gs hs = .tuple #[.int .i64 (sumS hs - sumS gs), .bool true, .int .i64 0]) := by show _ = _; unfold workE; rw [if_pos hf]
    have HZ1 := Lib.hid z1; have HZ2 := Lib.hid z2
    have hz : (finV gs hs).2 = 0 := by rw [v3]
    rw [hz]
    clear hf v1 v2 v3 z1 z2 z3 hz
    go_wp2_with fail
    refine (wMoves_yes A B n c m e gs hs _ (hR1.bel (by (repeat (first | exact Bel.refl _ | assumption | refine Bel.drew ?_ | refine Bel.drewN ?_ _ | refine Bel.alloc ?_ _ | refine Bel.setCell ?_ (by first | omega | (simp; done) | (simp; omega) | (simp at *; omega)) _ | refine Bel.trans ?_ (by assumption))))) (hS1.bel (by (repeat (first | exact Bel.refl _ | assumption | refine Bel.drew ?_ | refine Bel.drewN ?_ _ | refine Bel.alloc ?_ _ | refine Bel.setCell ?_ (by first | omega | (simp; done) | (simp; omega) | (simp at *; omega)) _ | refine Bel.trans ?_ (by assumption))))) Hn.out Hm.out hmax hmax2 HFV.out).mono ?_
    rintro e w21 ⟨A4, n4, c4', P, rfl, hn4, h12, hb21, htr, hC⟩
    have HN4 := Lib.hid hn4.symm
    obtain ⟨y1, y2, G0, y3, y4⟩ := checkE_zero hC
    obtain ⟨y5, y6, -⟩ := grindE_zero y2
    have hok := (movV_zero y6).2
    have HWW : Hid (workM P = sumS hs - sumS gs) := work_all HZ1.out HZ2.out y3 hok y4
    have HOK := Lib.hid hok; have HCP := Lib.hid hC
    have hwb := workM_bd hok
    clear hn4 hC y1 y2 y3 y4 y5 y6 hok
    clear c0 c1 c2 c3 c4
    obtain ⟨c0, c1, c2, c3, c4⟩ := Held1.out w21 (by (repeat (first | exact Bel.refl _ | assumption | refine Bel.drew ?_ | refine Bel.drewN ?_ _ | refine Bel.alloc ?_ _ | refine Bel.setCell ?_ (by first | omega | (simp; done) | (simp; omega) | (simp at *; omega)) _ | refine Bel.trans ?_ (by assumption))))
    go_wp2_with fail
    refine (wWork_any A B n c m e gs hs _ (hR1.bel (by (repeat (first | exact Bel.refl _ | assumption | refine Bel.drew ?_ | refine Bel.drewN ?_ _ | refine Bel.alloc ?_ _ | refine Bel.setCell ?_ (by first | omega | (simp; done) | (simp; omega) | (simp at *; omega)) _ | refine Bel.trans ?_ (by assumption))))) (hS1.bel (by (repeat (first | exact Bel.refl _ | assumption | refine Bel.drew ?_ | refine Bel.drewN ?_ _ | refine Bel.alloc ?_ _ | refine Bel.setCell ?_ (by first | omega | (simp; done) | (simp; omega) | (simp at *; omega)) _ | refine Bel.trans ?_ (by assumption))))) Hn.out Hm.out hmax hmax2).mono ?_
    rintro e w22 ⟨rfl, hb22⟩
    rw [HWE.out, ← HWW.out]
    clear c0 c1 c2 c3 c4
    obtain ⟨c0, c1, c2, c3, c4⟩ := Held1.out w22 (by (repeat (first | exact Bel.refl _ | assumption | refine Bel.drew ?_ | refine Bel.drewN ?_ _ | refine Bel.alloc ?_ _ | refine Bel.setCell ?_ (by first | omega | (simp; done) | (simp; omega) | (simp at *; omega)) _ | refine Bel.trans ?_ (by assumption))))
    go_wp2
    go_loopw [24, 25] (fun a i wr => ∃ q : Nat, q ≤ n4 ∧ i = .int .i64 q ∧ a = .int .i64 (workM (P.take q)) ∧ Bel w22 wr) (fun _ i _ => n4 - (intOf i).toNat)
    case atStart => exact ⟨0, Nat.zero_le _, rfl, by simp [workM], Bel.refl _⟩
    case round =>
      obtain ⟨q, hq, rfl, rfl, hb23⟩ := hrel
      clear c0 c1 c2 c3 c4
      obtain ⟨c0, c1, c2, c3, c4⟩ := Held1.out wr (by (repeat (first | exact Bel.refl _ | assumption | refine Bel.drew ?_ | refine Bel.drewN ?_ _ | refine Bel.alloc ?_ _ | refine Bel.setCell ?_ (by first | omega | (simp; done) | (simp; omega) | (simp at *; omega)) _ | refine Bel.trans ?_ (by assumption))))
      by_cases hlt : q < n4
      · obtain ⟨b, o, mf, mt, mm, rfl, hbl, hgm, h1, h2, h3⟩ := (htr.bel (w' := wr) (by (repeat (first | exact Bel.refl _ | assumption | refine Bel.drew ?_ | refine Bel.drewN ?_ _ | refine Bel.alloc ?_ _ | refine Bel.setCell ?_ (by first | omega | (simp; done) | (simp; omega) | (simp at *; omega)) _ | refine Bel.trans ?_ (by assumption))))).at_ (k := q) (by rw [HN4.out]; exact hlt)
        have hmo := HOK.out _ (List.mem_of_getElem? hgm)
        obtain ⟨k1, k2⟩ := move_bd hmo
        obtain ⟨k3, k4, k5, k6, k7⟩ := moveOk_iff.1 hmo
        have hwq := workM_bd (ms := P.take q) (fun v hv => HOK.out v (List.mem_of_mem_take hv))
        have hlq := List.length_take_le q P
        have HTQ : Hid (workM (P.take (q + 1)) = workM (P.take q) + mm * (mf - mt)) := by show _ = _; rw [take_at hgm, workM_snoc]
        have hqn : (q : Int) < (n4 : Int) := by omega
        have hq0 : (0 : Int) ≤ (q : Int) := by omega
        generalize workM (P.take q) = acc at *
        have W1 : IntKind.i64.wrap (mf - mt) = mf - mt := IntWalk.i64_in _ (by omega)
        have W2 : IntKind.i64.wrap (mm * (mf - mt)) = mm * (mf - mt) := IntWalk.i64_in _ (by omega)
        have W3 : IntKind.i64.wrap (acc + mm * (mf - mt)) = acc + mm * (mf - mt) := IntWalk.i64_in _ (by omega)
        have g1' : (wr.drewN 1).cell? ⟨b, o + q * 3, none⟩ = some (.int .i64 mf) := h1
        clear hgm hmo
        go_wp2
        go_quiet (fail)
        go_wp2
        go_roundw
        case rel => exact ⟨q + 1, by omega, by go_num, by rw [HTQ.out], by (repeat (first | exact Bel.refl _ | assumption | refine Bel.drew ?_ | refine Bel.drewN ?_ _ | refine Bel.alloc ?_ _ | refine Bel.setCell ?_ (by first | omega | (simp; done) | (simp; omega) | (simp at *; omega)) _ | refine Bel.trans ?_ (by assumption)))⟩
        case measure => simp [intOf]; omega
      · obtain rfl : q = n4 := by omega
        have HTP : Hid (P.take q = P) := List.take_of_length_le (by rw [HN4.out]; omega)
        rw [HTP.out]
        generalize workM P = wk at *
        go_wp2_with fail
        refine (wCheck_any A B A4 n c m e q c4' gs hs P _ (hR1.bel (by (repeat (first | exact Bel.refl _ | assumption | refine Bel.drew ?_ | refine Bel.drewN ?_ _ | refine Bel.alloc ?_ _ | refine Bel.setCell ?_ (by first | omega | (simp; done) | (simp; omega) | (simp at *; omega)) _ | refine Bel.trans ?_ (by assumption))))) (hS1.bel (by (repeat (first | exact Bel.refl _ | assumption | refine Bel.drew ?_ | refine Bel.drewN ?_ _ | refine Bel.alloc ?_ _ | refine Bel.setCell ?_ (by first | omega | (simp; done) | (simp; omega) | (simp at *; omega)) _ | refine Bel.trans ?_ (by assumption))))) (htr.bel (by (repeat (first | exact Bel.refl _ | assumption | refine Bel.drew ?_ | refine Bel.drewN ?_ _ | refine Bel.alloc ?_ _ | refine Bel.setCell ?_ (by first | omega | (simp; done) | (simp; omega) | (simp at *; omega)) _ | refine Bel.trans ?_ (by assumption))))) Hn.out Hm.out HN4.out hmax hmax2 (Nat.le_trans h12 (by unfold maxLen; omega))).mono ?_
        rintro e w24 ⟨rfl, hb24⟩
        rw [HCP.out]
        clear c0 c1 c2 c3 c4
        obtain ⟨c0, c1, c2, c3, c4⟩ := Held1.out w24 (by (repeat (first | exact Bel.refl _ | assumption | refine Bel.drew ?_ | refine Bel.drewN ?_ _ | refine Bel.alloc ?_ _ | refine Bel.setCell ?_ (by first | omega | (simp; done) | (simp; omega) | (simp at *; omega)) _ | refine Bel.trans ?_ (by assumption))))
        go_wp2_with fail
        refine (wGrind_any B C m e l k hs ms _ (hS1.bel (by (repeat (first | exact Bel.refl _ | assumption | refine Bel.drew ?_ | refine Bel.drewN ?_ _ | refine Bel.alloc ?_ _ | refine Bel.setCell ?_ (by first | omega | (simp; done) | (simp; omega) | (simp at *; omega)) _ | refine Bel.trans ?_ (by assumption))))) (hV1.bel (by (repeat (first | exact Bel.refl _ | assumption | refine Bel.drew ?_ | refine Bel.drewN ?_ _ | refine Bel.alloc ?_ _ | refine Bel.setCell ?_ (by first | omega | (simp; done) | (simp; omega) | (simp at *; omega)) _ | refine Bel.trans ?_ (by assumption))))) Hm.out Hl.out hmax2 hmax3).mono ?_
        rintro e w30 hG
        by_cases hE : grindE hs ms = 0
        · obtain ⟨f1, f2, G, f3, f4⟩ := grindE_zero hE
          obtain ⟨A5, n5, c5, rfl, hn5, hnc, hc5, hb30, hp5⟩ := hG.ok f1 f2 f3 f4
          have hfin := grind_fin f1 f4 f3 (movV_zero f2).2
          have hF5 : errF (lotF G) hs = 0 := (finV_true (by rw [hfin])).1
          have HMM : Hid (belowV (lotF G) 20 = sumM hs ∧ belowV hs 20 = sumM hs) := by
            obtain ⟨_, _, q3⟩ := errF_zero hF5
            exact ⟨by rw [mass_of f4, q3], mass_of f1⟩
          have HCK : Hid (checkE (lotF G) hs ms = 0) := by
            show _ = _
            unfold checkE
            rw [if_pos hF5, if_pos hE, f3]
            simp [same]
          have HFIN := Lib.hid hfin; have HF4 := Lib.hid f4; have HF1 := Lib.hid f1; have HN5 := Lib.hid hn5
          have hn56 : n5 ≤ maxLen := Nat.le_trans hnc hc5
          clear hG hE f1 f2 f3 f4 hfin hF5 hn5
          clear c0 c1 c2 c3 c4
          obtain ⟨c0, c1, c2, c3, c4⟩ := Held1.out w30 (by (repeat (first | exact Bel.refl _ | assumption | refine Bel.drew ?_ | refine Bel.drewN ?_ _ | refine Bel.alloc ?_ _ | refine Bel.setCell ?_ (by first | omega | (simp; done) | (simp; omega) | (simp at *; omega)) _ | refine Bel.trans ?_ (by assumption))))
          go_wp2_with fail
          refine (wFiner_any A5 B n5 c5 m e (lotF G) hs _ hp5 (hS1.bel (by (repeat (first | exact Bel.refl _ | assumption | refine Bel.drew ?_ | refine Bel.drewN ?_ _ | refine Bel.alloc ?_ _ | refine Bel.setCell ?_ (by first | omega | (simp; done) | (simp; omega) | (simp at *; omega)) _ | refine Bel.trans ?_ (by assumption))))) HN5.out.symm Hm.out hn56 hmax2).mono ?_
          rintro e w31 ⟨rfl, hb31⟩
          rw [HFIN.out]
          unfold boolE
          clear c0 c1 c2 c3 c4
          obtain ⟨c0, c1, c2, c3, c4⟩ := Held1.out w31 (by (repeat (first | exact Bel.refl _ | assumption | refine Bel.drew ?_ | refine Bel.drewN ?_ _ | refine Bel.alloc ?_ _ | refine Bel.setCell ?_ (by first | omega | (simp; done) | (simp; omega) | (simp at *; omega)) _ | refine Bel.trans ?_ (by assumption))))
          go_wp2_with fail
          refine (wMass_any A5 n5 c5 (lotF G) _ (hp5.bel (by (repeat (first | exact Bel.refl _ | assumption | refine Bel.drew ?_ | refine Bel.drewN ?_ _ | refine Bel.alloc ?_ _ | refine Bel.setCell ?_ (by first | omega | (simp; done) | (simp; omega) | (simp at *; omega)) _ | refine Bel.trans ?_ (by assumption))))) HN5.out.symm hn56).mono ?_
          rintro e w32 ⟨rfl, hb32⟩
          rw [HMM.out.1, HF4.out]
          clear c0 c1 c2 c3 c4
          obtain ⟨c0, c1, c2, c3, c4⟩ := Held1.out w32 (by (repeat (first | exact Bel.refl _ | assumption | refine Bel.drew ?_ | refine Bel.drewN ?_ _ | refine Bel.alloc ?_ _ | refine Bel.setCell ?_ (by first | omega | (simp; done) | (simp; omega) | (simp at *; omega)) _ | refine Bel.trans ?_ (by assumption))))
          go_wp2_with fail
          refine (wMass_any B m e hs _ (hS1.bel (by (repeat (first | exact Bel.refl _ | assumption | refine Bel.drew ?_ | refine Bel.drewN ?_ _ | refine Bel.alloc ?_ _ | refine Bel.setCell ?_ (by first | omega | (simp; done) | (simp; omega) | (simp at *; omega)) _ | refine Bel.trans ?_ (by assumption))))) Hm.out hmax2).mono ?_
          rintro e w33 ⟨rfl, hb33⟩
          rw [HMM.out.2, HF1.out]
          clear c0 c1 c2 c3 c4
          obtain ⟨c0, c1, c2, c3, c4⟩ := Held1.out w33 (by (repeat (first | exact Bel.refl _ | assumption | refine Bel.drew ?_ | refine Bel.drewN ?_ _ | refine Bel.alloc ?_ _ | refine Bel.setCell ?_ (by first | omega | (simp; done) | (simp; omega) | (simp at *; omega)) _ | refine Bel.trans ?_ (by assumption))))
          go_wp2_with fail
          refine (wCheck_any A5 B C n5 c5 m e l k (lotF G) hs ms _ (hp5.bel (by (repeat (first | exact Bel.refl _ | assumption | refine Bel.drew ?_ | refine Bel.drewN ?_ _ | refine Bel.alloc ?_ _ | refine Bel.setCell ?_ (by first | omega | (simp; done) | (simp; omega) | (simp at *; omega)) _ | refine Bel.trans ?_ (by assumption))))) (hS1.bel (by (repeat (first | exact Bel.refl _ | assumption | refine Bel.drew ?_ | refine Bel.drewN ?_ _ | refine Bel.alloc ?_ _ | refine Bel.setCell ?_ (by first | omega | (simp; done) | (simp; omega) | (simp at *; omega)) _ | refine Bel.trans ?_ (by assumption))))) (hV1.bel (by (repeat (first | exact Bel.refl _ | assumption | refine Bel.drew ?_ | refine Bel.drewN ?_ _ | refine Bel.alloc ?_ _ | refine Bel.setCell ?_ (by first | omega | (simp; done) | (simp; omega) | (simp at *; omega)) _ | refine Bel.trans ?_ (by assumption))))) HN5.out.symm Hm.out Hl.out hn56 hmax2 hmax3).mono ?_
          rintro e w34 ⟨rfl, hb34⟩
          rw [HCK.out]
          go_wp2
          go_ret
          exact ⟨rfl, by (repeat (first | exact Bel.refl _ | assumption | refine Bel.drew ?_ | refine Bel.drewN ?_ _ | refine Bel.alloc ?_ _ | refine Bel.setCell ?_ (by first | omega | (simp; done) | (simp; omega) | (simp at *; omega)) _ | refine Bel.trans ?_ (by assumption)))⟩
        · obtain ⟨rfl, hb30⟩ := hG.err hE
          obtain ⟨ge, hge⟩ : ∃ ge, ge = grindE hs ms := ⟨_, rfl⟩
          rw [← hge] at hE ⊢
          have hne : (ge != 0) = true := by simpa using hE
          clear hge hE hG
          go_wp2
          go_ret
          exact ⟨rfl, by (repeat (first | exact Bel.refl _ | assumption | refine Bel.drew ?_ | refine Bel.drewN ?_ _ | refine Bel.alloc ?_ _ | refine Bel.setCell ?_ (by first | omega | (simp; done) | (simp; omega) | (simp at *; omega)) _ | refine Bel.trans ?_ (by assumption)))⟩

end Go.Proofs.Ytmbhhooiaonhjaa.topWash
