/-
  The statement TopWashSaid: for any lots, pot and moves what sinks and what stays is all; more settlings leave no more above; a lot is finer exactly if moves lead to it, with the work that its sums tell; the lists stay as they were in their spare cells, too. No condition.
-/
import Derived.Test.YtmbhhooiaonhjaaSK
import Derived.Deep.RegionHeld3
import Derived.Deep.RegionWith
import Derived.Deep.DeepCutAuto
namespace Go.Proofs.Ytmbhhooiaonhjaa.topWash
open Go.ChangeShapes Go.WideShapes Go.ChangeAt Go.RowKit Go.Joins

theorem boxes2 {w w' : World} {v0 v1 v2 : Value} {t d : Int} {ty ty' : TypeId} (h : Bel ((w.alloc (.cells #[v0, v1, v2] ty)).alloc (.cells #[.int .i64 t, .int .i64 d] ty')) w') :
    w'.cell? ⟨w.heap.size, 0, none⟩ = some v0 ∧ w'.cell? ⟨w.heap.size, 1, none⟩ = some v1 ∧ w'.cell? ⟨w.heap.size, 2, none⟩ = some v2 ∧ w'.cell? ⟨w.heap.size + 1, 0, none⟩ = some (.int .i64 t) ∧ w'.cell? ⟨w.heap.size + 1, 1, none⟩ = some (.int .i64 d) := by
  refine ⟨?_, ?_, ?_, ?_, ?_⟩ <;> (rw [h.use.1 _ _ (by simp <;> omega)]; go_simp)

set_option maxRecDepth 100000 in
set_option maxHeartbeats 16000000 in
theorem main2 (A B C : Option Addr) (n c m e l k : Nat) (gs hs : List (Int × Int)) (ms : List (Int × Int × Int)) (t d T : Int) (w : World) (hR : Prs w A gs) (hS : Prs w B hs) (hV : Trs w C ms) (hn : gs.length = n) (hm : hs.length = m) (hl : ms.length = l) (h40 : ¬ 40 < n) (h41 : ¬ 40 < m) (h60 : ¬ 60 < l) (he : errV gs = 0) (g1 : within t 0 100 = true) (g2 : within d 1 20 = true) (g3 : within T 1 4 = false) :
    Calls Try.prog 13 #[.agg #[.slice A n c, .slice B m e, .slice C l k], .agg #[.int .i64 t, .int .i64 d], .int .i64 T] w fun e w' => e = .returned (.bool true) ∧ Bel w w' := by
  have hk : decide (40 < n) = false := by simpa using h40
  have hk2 : decide (40 < m) = false := by simpa using h41
  have h60i : ¬ (60 : Int) < (l : Int) := by omega
  have hmax : n ≤ maxLen := by unfold maxLen; omega
  have hmax2 : m ≤ maxLen := by unfold maxLen; omega
  have hmax3 : l ≤ maxLen := by unfold maxLen; omega
  clear h40 h41 h60
  have Hn := Lib.hid hn; have Hm := Lib.hid hm; have Hl := Lib.hid hl; have HE := Lib.hid he; have HMG := Lib.hid (mass_of he); have HF := Lib.hid (fit_of gs he)
  have hn6 : n ≤ 6 := by have := (errV_zero he).1; omega
  clear hn hm hl he

  obtain ⟨t1, t2⟩ := within_iff.1 g1
  obtain ⟨d1, d2⟩ := within_iff.1 g2
  have HS1 := Lib.hid (sunkL_eq HF.out t1 d1)
  have HS2 := Lib.hid (stayL_eq HF.out t1 d1)
  have HL1 : Hid ((sunkL gs t d).length = n) := by show _ = _; rw [HS1.out, List.length_map, Hn.out]
  have HL2 : Hid ((stayL gs t d).length = n) := by show _ = _; rw [HS2.out, List.length_map, Hn.out]

  have HWA : Hid ((within t 0 100 && within d 1 20 && within T 1 4) = false) := by show _ = _; rw [g1, g2, g3]; rfl
  clear g3

  have Held := Lib.hid (fun w' h => boxes2 (w := w) (v0 := .slice A n c) (v1 := .slice B m e) (v2 := .slice C l k) (t := t) (d := d) (ty := 34) (ty' := 30) (w' := w') h)
  have P1 := Lib.hid (congrArg Prod.fst part1); have P2 := Lib.hid (congrArg Prod.snd part1)
  simp only [nd] at P1 P2

  go_enter Try.func13, Try.ntmps13
  go_wp2_with fail
  refine (wpart_yes 3 2 10 _ (by decide)).mono ?_
  rintro e w1 ⟨rfl, hb1⟩
  rw [P1.out, P2.out]
  have hbw1 : Bel w w1 := by (repeat (first | exact Bel.refl _ | assumption | refine Bel.drew ?_ | refine Bel.drewN ?_ _ | refine Bel.alloc ?_ _ | refine Bel.setCell ?_ (by first | omega | (simp; done) | (simp; omega) | (simp at *; omega)) _ | refine Bel.trans ?_ (by assumption)))
  have held1 : ∀ w', Bel w1 w' → w'.cell? ⟨w.heap.size, 0, none⟩ = some (.slice A n c) ∧ w'.cell? ⟨w.heap.size, 1, none⟩ = some (.slice B m e) ∧ w'.cell? ⟨w.heap.size, 2, none⟩ = some (.slice C l k) ∧ w'.cell? ⟨w.heap.size + 1, 0, none⟩ = some (.int .i64 t) ∧ w'.cell? ⟨w.heap.size + 1, 1, none⟩ = some (.int .i64 d) := fun w' h => Held.out w' (hb1.trans h)
  have Held1 := Lib.hid held1
  clear held1
  have hR1 := hR.bel hbw1
  have hS1 := hS.bel hbw1
  have hV1 := hV.bel hbw1
  obtain ⟨c0, c1, c2, c3, c4⟩ := Held1.out w1 (Bel.refl _)
  obtain ⟨d0, d1, d2, d3, d4⟩ := Held1.out (w1.alloc (.cells #[.int .i64 3, .int .i64 5] 46)) ((Bel.refl _).alloc _)

  go_wp2_with (go_at_call 15; refine (long_any _ _ _ _).mono ?_; rintro e w' ⟨rfl, rfl⟩)
  refine (wMass_any A n c gs _ (hR1.bel (by (repeat (first | exact Bel.refl _ | assumption | refine Bel.drew ?_ | refine Bel.drewN ?_ _ | refine Bel.alloc ?_ _ | refine Bel.setCell ?_ (by first | omega | (simp; done) | (simp; omega) | (simp at *; omega)) _ | refine Bel.trans ?_ (by assumption))))) Hn.out hmax).mono ?_
  rintro e w2 ⟨rfl, hb2⟩
  rw [HMG.out, HE.out]
  clear d0 d1 d2 d3 d4
  clear c0 c1 c2 c3 c4
  obtain ⟨c0, c1, c2, c3, c4⟩ := Held1.out w2 (by (repeat (first | exact Bel.refl _ | assumption | refine Bel.drew ?_ | refine Bel.drewN ?_ _ | refine Bel.alloc ?_ _ | refine Bel.setCell ?_ (by first | omega | (simp; done) | (simp; omega) | (simp at *; omega)) _ | refine Bel.trans ?_ (by assumption))))

  go_wp2_with fail
  refine (settle_ok A n c gs t d _ (hR1.bel (by (repeat (first | exact Bel.refl _ | assumption | refine Bel.drew ?_ | refine Bel.drewN ?_ _ | refine Bel.alloc ?_ _ | refine Bel.setCell ?_ (by first | omega | (simp; done) | (simp; omega) | (simp at *; omega)) _ | refine Bel.trans ?_ (by assumption))))) Hn.out HE.out g1 g2).mono ?_
  rintro e w3 ⟨g, g', rfl, hg, hg', hb3, hr1, hr2⟩
  have hq1 : Prs w3 (some ⟨g, 0, none⟩) (sunkL gs t d) := Row.prs (m := n * 2) (by rw [HL1.out]; exact hr1)
  have hq2 : Prs w3 (some ⟨g', 0, none⟩) (stayL gs t d) := Row.prs (m := n * 2) (by rw [HL2.out]; exact hr2)
  clear hr1 hr2 hg hg'
  clear c0 c1 c2 c3 c4
  obtain ⟨c0, c1, c2, c3, c4⟩ := Held1.out w3 (by (repeat (first | exact Bel.refl _ | assumption | refine Bel.drew ?_ | refine Bel.drewN ?_ _ | refine Bel.alloc ?_ _ | refine Bel.setCell ?_ (by first | omega | (simp; done) | (simp; omega) | (simp at *; omega)) _ | refine Bel.trans ?_ (by assumption))))

  go_wp2_with fail
  refine (wash_err A n c gs t d T _ (hR1.bel (by (repeat (first | exact Bel.refl _ | assumption | refine Bel.drew ?_ | refine Bel.drewN ?_ _ | refine Bel.alloc ?_ _ | refine Bel.setCell ?_ (by first | omega | (simp; done) | (simp; omega) | (simp at *; omega)) _ | refine Bel.trans ?_ (by assumption))))) Hn.out hmax 1 (.inr ⟨HE.out, HWA.out, rfl⟩)).mono ?_
  rintro e w4 ⟨rfl, hb4⟩
  replace hq1 := hq1.bel hb4
  replace hq2 := hq2.bel hb4
  clear c0 c1 c2 c3 c4
  obtain ⟨c0, c1, c2, c3, c4⟩ := Held1.out w4 (by (repeat (first | exact Bel.refl _ | assumption | refine Bel.drew ?_ | refine Bel.drewN ?_ _ | refine Bel.alloc ?_ _ | refine Bel.setCell ?_ (by first | omega | (simp; done) | (simp; omega) | (simp at *; omega)) _ | refine Bel.trans ?_ (by assumption))))

  go_wp2
  go_loopw [16] (fun i wr => ∃ q : Nat, q ≤ n ∧ i = .int .i64 q ∧ Bel w4 wr ∧ w4.heap.size < wr.heap.size ∧ wr.cell? ⟨w4.heap.size, 0, none⟩ = some (.int .i64 (sumM (gs.take q))) ∧ wr.cell? ⟨w4.heap.size, 1, none⟩ = some (.int .i64 1) ∧ wr.frozen? ⟨w4.heap.size, 0, none⟩ = false ∧ wr.frozen? ⟨w4.heap.size, 1, none⟩ = false) (fun i _ => n - (intOf i).toNat)
  case atStart => exact ⟨0, Nat.zero_le _, rfl, (Bel.refl _).alloc _, by simp, by rw [show sumM (gs.take 0) = 0 from by simp [sumM]]; go_simp, by go_simp, by go_simp, by go_simp⟩
  case round =>
    obtain ⟨q, hq, rfl, hb5, hsz, hs1, hs2, hs3, hs4⟩ := hrel
    have hb15 : Bel w1 wr := by (repeat (first | exact Bel.refl _ | assumption | refine Bel.drew ?_ | refine Bel.drewN ?_ _ | refine Bel.alloc ?_ _ | refine Bel.setCell ?_ (by first | omega | (simp; done) | (simp; omega) | (simp at *; omega)) _ | refine Bel.trans ?_ (by assumption)))
    clear c0 c1 c2 c3 c4
    obtain ⟨c0, c1, c2, c3, c4⟩ := Held1.out wr (by (repeat (first | exact Bel.refl _ | assumption | refine Bel.drew ?_ | refine Bel.drewN ?_ _ | refine Bel.alloc ?_ _ | refine Bel.setCell ?_ (by first | omega | (simp; done) | (simp; omega) | (simp at *; omega)) _ | refine Bel.trans ?_ (by assumption))))
    by_cases hlt : q < n
    · obtain ⟨⟨s, x⟩, hg⟩ : ∃ y, gs[q]? = some y := ⟨_, List.getElem?_eq_getElem (by rw [Hn.out]; exact hlt)⟩
      obtain ⟨⟨a1, a2⟩, a3, a4⟩ := HF.out (s, x) (List.mem_of_getElem? hg)
      simp only at a1 a2 a3 a4
      obtain ⟨y3, y4⟩ := skn_bd (s := s) (t := t) (d := d) (by omega) t1 d1
      obtain ⟨y5, y6⟩ := mul_bd (A := 100) (B := 20) (by omega : 0 ≤ x) a4 y3 (by omega)
      obtain ⟨y7, y8⟩ := mul_bd (A := 100) (B := 20) (b := d - skn s t d) (by omega : 0 ≤ x) a4 (by omega) (by omega)
      have hx1 : (sunkL gs t d)[q]? = some (nd (x * skn s t d) d) := by rw [HS1.out, List.getElem?_map, hg]; rfl
      have hx2 : (stayL gs t d)[q]? = some (nd (x * (d - skn s t d)) d) := by rw [HS2.out, List.getElem?_map, hg]; rfl
      have hsum := split_adds (m := x) (k := skn s t d) (d := d) (by omega) y3 y4 (by omega)
      obtain ⟨v1, v2⟩ := num_bd (n := x * skn s t d) (d := d) y5 (by omega)
      obtain ⟨v3, v4⟩ := den_bd (n := x * skn s t d) (d := d) y5 (by omega)
      obtain ⟨v5, v6⟩ := num_bd (n := x * (d - skn s t d)) (d := d) y7 (by omega)
      obtain ⟨v7, v8⟩ := den_bd (n := x * (d - skn s t d)) (d := d) y7 (by omega)
      simp only [nd] at hx1 hx2 hsum
      generalize num (x * skn s t d) d = x1 at *
      generalize den (x * skn s t d) d = x2 at *
      generalize num (x * (d - skn s t d)) d = x3 at *
      generalize den (x * (d - skn s t d)) d = x4 at *
      simp only [Prod.mk.injEq] at hsum
      obtain ⟨o3, o4⟩ := hsum
      obtain ⟨z1, z2⟩ := mul_bd (A := 2000) (B := 20) v1 (by omega) (Int.le_of_lt v7) (by omega)
      obtain ⟨z3, z4⟩ := mul_bd (A := 2000) (B := 20) v5 (by omega) (Int.le_of_lt v3) (by omega)
      obtain ⟨z5, z6⟩ := mul_bd (A := 20) (B := 20) (Int.le_of_lt v3) (by omega : x2 ≤ 20) (Int.le_of_lt v7) (by omega)
      have z7 := Int.mul_pos v3 v7
      have hS0 := sumM_bd (HF.out.take q)
      have hlk := List.length_take_le q gs
      have HTS : Hid (sumM (gs.take (q + 1)) = sumM (gs.take q) + x) := by show _ = _; rw [take_at hg, sumM_snoc]
      generalize sumM (gs.take q) = S at *
      have hone := nd_one (a := S + x) (by omega)
      simp only [nd, Prod.mk.injEq] at hone
      have O5 : Hid (num (S * 1 + x * 1) (1 * 1) = S + x) := by show _ = _; rw [Int.mul_one, Int.mul_one, Int.mul_one]; exact hone.1
      have O6 : Hid (den (S * 1 + x * 1) (1 * 1) = 1) := by show _ = _; rw [Int.mul_one, Int.mul_one, Int.mul_one]; exact hone.2
      have O3 := Lib.hid o3; have O4 := Lib.hid o4
      have hqn : (q : Int) < (n : Int) := by omega
      have hq0 : (0 : Int) ≤ (q : Int) := by omega
      have held : ∀ w', Bel wr w' → w'.cell? ⟨g, q * 2, none⟩ = some (.int .i64 x1) ∧ w'.cell? ⟨g, q * 2 + 1, none⟩ = some (.int .i64 x2) ∧ w'.cell? ⟨g', q * 2, none⟩ = some (.int .i64 x3) ∧ w'.cell? ⟨g', q * 2 + 1, none⟩ = some (.int .i64 x4) ∧ w'.cell? ⟨w4.heap.size, 0, none⟩ = some (.int .i64 S) ∧ w'.cell? ⟨w4.heap.size, 1, none⟩ = some (.int .i64 1) ∧ w'.frozen? ⟨w4.heap.size, 0, none⟩ = false ∧ w'.frozen? ⟨w4.heap.size, 1, none⟩ = false ∧ w4.heap.size < w'.heap.size := by
        intro w' h
        have r1 := (hq1.bel (hb5.trans h)).cellsAt hx1
        have r2 := (hq2.bel (hb5.trans h)).cellsAt hx2
        simp only [Nat.zero_add] at r1 r2
        exact ⟨r1.1, r1.2, r2.1, r2.2, by rw [h.use.1 _ _ hsz]; exact hs1, by rw [h.use.1 _ _ hsz]; exact hs2, by rw [h.use.2.1 _ _ hsz]; exact hs3, by rw [h.use.2.1 _ _ hsz]; exact hs4, Nat.lt_of_lt_of_le hsz h.size⟩
      have Held2 := Lib.hid held
      clear held o3 o4 hone hx1 hx2 hg hs1 hs2 hs3 hs4
      obtain ⟨wo, hwo⟩ : ∃ wo : World, wo = wr := ⟨_, rfl⟩
      subst hwo
      obtain ⟨r1, r2, r3, r4, r5, r6, r7, r8, r9⟩ := Held2.out wo (Bel.refl _)
      go_wp2
      go_region_with (first | (go_at_call_of 21 (Value.agg #[Value.int IntKind.i64 x1, Value.int IntKind.i64 x2]); refine (add_any x1 x2 x3 x4 _ z1 z3 (by omega) (by omega) z7 (by omega)).mono ?_; rintro e w6 ⟨rfl, hb6⟩; rw [O3.out, O4.out]; obtain ⟨p1, p2, p3, p4, p5, p6, p7, p8, p9⟩ := Held2.out w6 (by (repeat (first | exact Bel.refl _ | assumption | refine Bel.drew ?_ | refine Bel.drewN ?_ _ | refine Bel.alloc ?_ _ | refine Bel.setCell ?_ (by first | omega | (simp; done) | (simp; omega) | (simp at *; omega)) _ | refine Bel.trans ?_ (by assumption))))) | (go_at_call_of 21 (Value.agg #[Value.int IntKind.i64 S, Value.int IntKind.i64 1]); refine (add_any S 1 x 1 _ (by omega) (by omega) (by omega) (by omega) (by omega) (by omega)).mono ?_; rintro e w7 ⟨rfl, hb7⟩; rw [O5.out, O6.out]; obtain ⟨q1, q2, q3, q4, q5, q6, q7, q8, q9⟩ := Held2.out w7 (by (repeat (first | exact Bel.refl _ | assumption | refine Bel.drew ?_ | refine Bel.drewN ?_ _ | refine Bel.alloc ?_ _ | refine Bel.setCell ?_ (by first | omega | (simp; done) | (simp; omega) | (simp at *; omega)) _ | refine Bel.trans ?_ (by assumption))))))
      all_goals
        have hb67 : Bel wo w7 := by (repeat (first | exact Bel.refl _ | assumption | refine Bel.drew ?_ | refine Bel.drewN ?_ _ | refine Bel.alloc ?_ _ | refine Bel.setCell ?_ (by first | omega | (simp; done) | (simp; omega) | (simp at *; omega)) _ | refine Bel.trans ?_ (by assumption)))
        go_wp2
        go_roundw
        case rel =>
          refine ⟨q + 1, by omega, by go_num, ((hb5.trans hb67).setCell (Nat.le_refl _) _).setCell (Nat.le_refl _) _, by simpa using q9, ?_, ?_, ?_, ?_⟩
          · rw [World.cell?_setCell_other _ _ _ _ (by simp), HTS.out]
            exact World.cell?_setCell_same' _ _ _ (by rw [q5]; rfl)
          · exact World.cell?_setCell_same' _ _ _ (by rw [World.cell?_setCell_other _ _ _ _ (by simp), q6]; rfl)
          · rw [World.frozen?_setCell, World.frozen?_setCell]; exact q7
          · rw [World.frozen?_setCell, World.frozen?_setCell]; exact q8
        case measure => simp [intOf]; omega
    · obtain rfl : n = q := by omega
      have HTG : Hid (gs.take n = gs) := List.take_of_length_le (by rw [Hn.out]; omega)
      rw [HTG.out] at hs1
      have hS0 := sumM_bd HF.out
      have hlg : gs.length = n := Hn.out
      have hone := nd_one (a := sumM gs) (by omega)
      simp only [nd, Prod.mk.injEq] at hone
      have O1 := Lib.hid hone.1; have O2 := Lib.hid hone.2
      have hS1' : 0 ≤ sumM gs := by omega
      have hS2' : sumM gs ≤ 600 := by omega
      clear hone hlg hS0
      generalize sumM gs = S at *
      have held : ∀ w', Bel wr w' → w'.cell? ⟨w4.heap.size, 0, none⟩ = some (.int .i64 S) ∧ w'.cell? ⟨w4.heap.size, 1, none⟩ = some (.int .i64 1) := fun w' h => ⟨by rw [h.use.1 _ _ hsz]; exact hs1, by rw [h.use.1 _ _ hsz]; exact hs2⟩
      have Held2 := Lib.hid held
      clear held hs3 hs4
      obtain ⟨wo, hwo⟩ : ∃ wo : World, wo = wr := ⟨_, rfl⟩
      subst hwo
      go_wp2
      go_region_held3 (fun w' => Bel wo w' ∧ w'.cell? ⟨w4.heap.size, 0, none⟩ = some (.int .i64 S) ∧ w'.cell? ⟨w4.heap.size, 1, none⟩ = some (.int .i64 1)) (exact ⟨by (repeat (first | exact Bel.refl _ | assumption | refine Bel.drew ?_ | refine Bel.drewN ?_ _ | refine Bel.alloc ?_ _ | refine Bel.setCell ?_ (by first | omega | (simp; done) | (simp; omega) | (simp at *; omega)) _ | refine Bel.trans ?_ (by assumption))), Held2.out _ (by (repeat (first | exact Bel.refl _ | assumption | refine Bel.drew ?_ | refine Bel.drewN ?_ _ | refine Bel.alloc ?_ _ | refine Bel.setCell ?_ (by first | omega | (simp; done) | (simp; omega) | (simp at *; omega)) _ | refine Bel.trans ?_ (by assumption))))⟩)
        ((go_at_call 22; refine (ratio_any S 1 _ (by omega) (by omega) (by omega) (by omega)).mono ?_; rintro e w8 ⟨rfl, hb8⟩; rw [O1.out, O2.out]))
      have hb58 : Bel wo w8 := by (repeat (first | exact Bel.refl _ | assumption | refine Bel.drew ?_ | refine Bel.drewN ?_ _ | refine Bel.alloc ?_ _ | refine Bel.setCell ?_ (by first | omega | (simp; done) | (simp; omega) | (simp at *; omega)) _ | refine Bel.trans ?_ (by assumption)))
      have hb18 : Bel w1 w8 := hb15.trans hb58
      clear hs1 hs2
      clear c0 c1 c2 c3 c4
      obtain ⟨c0, c1, c2, c3, c4⟩ := Held1.out w8 (by (repeat (first | exact Bel.refl _ | assumption | refine Bel.drew ?_ | refine Bel.drewN ?_ _ | refine Bel.alloc ?_ _ | refine Bel.setCell ?_ (by first | omega | (simp; done) | (simp; omega) | (simp at *; omega)) _ | refine Bel.trans ?_ (by assumption))))
      go_wp2_with fail

      refine (wFiner_any A B n c m e gs hs _ (hR1.bel (by (repeat (first | exact Bel.refl _ | assumption | refine Bel.drew ?_ | refine Bel.drewN ?_ _ | refine Bel.alloc ?_ _ | refine Bel.setCell ?_ (by first | omega | (simp; done) | (simp; omega) | (simp at *; omega)) _ | refine Bel.trans ?_ (by assumption))))) (hS1.bel (by (repeat (first | exact Bel.refl _ | assumption | refine Bel.drew ?_ | refine Bel.drewN ?_ _ | refine Bel.alloc ?_ _ | refine Bel.setCell ?_ (by first | omega | (simp; done) | (simp; omega) | (simp at *; omega)) _ | refine Bel.trans ?_ (by assumption))))) Hn.out Hm.out hmax hmax2).mono ?_
      rintro e w20 ⟨rfl, hb20⟩
      unfold boolE
      clear c0 c1 c2 c3 c4
      obtain ⟨c0, c1, c2, c3, c4⟩ := Held1.out w20 (by (repeat (first | exact Bel.refl _ | assumption | refine Bel.drew ?_ | refine Bel.drewN ?_ _ | refine Bel.alloc ?_ _ | refine Bel.setCell ?_ (by first | omega | (simp; done) | (simp; omega) | (simp at *; omega)) _ | refine Bel.trans ?_ (by assumption))))
      cases hf : (finV gs hs).1
      · have HFV := Lib.hid hf
        have HWE : Hid (workE gs hs = .tuple #[.int .i64 0, .bool false, .int .i64 (finV gs hs).2]) := by show _ = _; unfold workE; rw [if_neg (by rw [hf]; decide)]
        clear hf
        go_wp2_with fail
        refine (wMoves_no A B n c m e gs hs _ (hR1.bel (by (repeat (first | exact Bel.refl _ | assumption | refine Bel.drew ?_ | refine Bel.drewN ?_ _ | refine Bel.alloc ?_ _ | refine Bel.setCell ?_ (by first | omega | (simp; done) | (simp; omega) | (simp at *; omega)) _ | refine Bel.trans ?_ (by assumption))))) (hS1.bel (by (repeat (first | exact Bel.refl _ | assumption | refine Bel.drew ?_ | refine Bel.drewN ?_ _ | refine Bel.alloc ?_ _ | refine Bel.setCell ?_ (by first | omega | (simp; done) | (simp; omega) | (simp at *; omega)) _ | refine Bel.trans ?_ (by assumption))))) Hn.out Hm.out hmax hmax2 HFV.out).mono ?_
        rintro e w21 ⟨rfl, hb21⟩
        clear c0 c1 c2 c3 c4
        obtain ⟨c0, c1, c2, c3, c4⟩ := Held1.out w21 (by (repeat (first | exact Bel.refl _ | assumption | refine Bel.drew ?_ | refine Bel.drewN ?_ _ | refine Bel.alloc ?_ _ | refine Bel.setCell ?_ (by first | omega | (simp; done) | (simp; omega) | (simp at *; omega)) _ | refine Bel.trans ?_ (by assumption))))
        go_wp2_with fail
        refine (wWork_any A B n c m e gs hs _ (hR1.bel (by (repeat (first | exact Bel.refl _ | assumption | refine Bel.drew ?_ | refine Bel.drewN ?_ _ | refine Bel.alloc ?_ _ | refine Bel.setCell ?_ (by first | omega | (simp; done) | (simp; omega) | (simp at *; omega)) _ | refine Bel.trans ?_ (by assumption))))) (hS1.bel (by (repeat (first | exact Bel.refl _ | assumption | refine Bel.drew ?_ | refine Bel.drewN ?_ _ | refine Bel.alloc ?_ _ | refine Bel.setCell ?_ (by first | omega | (simp; done) | (simp; omega) | (simp at *; omega)) _ | refine Bel.trans ?_ (by assumption))))) Hn.out Hm.out hmax hmax2).mono ?_
        rintro e w22 ⟨rfl, hb22⟩
        rw [HWE.out]
        generalize (finV gs hs).2 = fe at *
        clear c0 c1 c2 c3 c4
        obtain ⟨c0, c1, c2, c3, c4⟩ := Held1.out w22 (by (repeat (first | exact Bel.refl _ | assumption | refine Bel.drew ?_ | refine Bel.drewN ?_ _ | refine Bel.alloc ?_ _ | refine Bel.setCell ?_ (by first | omega | (simp; done) | (simp; omega) | (simp at *; omega)) _ | refine Bel.trans ?_ (by assumption))))
        go_wp2_with fail
        refine (wGrind_any B C m e l k hs ms _ (hS1.bel (by (repeat (first | exact Bel.refl _ | assumption | refine Bel.drew ?_ | refine Bel.drewN ?_ _ | refine Bel.alloc ?_ _ | refine Bel.setCell ?_ (by first | omega | (simp; done) | (simp; omega) | (simp at *; omega)) _ | refine Bel.trans ?_ (by assumption))))) (hV1.bel (by (repeat (first | exact Bel.refl _ | assumption | refine Bel.drew ?_ | refine Bel.drewN ?_ _ | refine Bel.alloc ?_ _ | refine Bel.setCell ?_ (by first | omega | (simp; done) | (simp; omega) | (simp at *; omega)) _ | refine Bel.trans ?_ (by assumption))))) Hm.out Hl.out hmax2 hmax3).mono ?_
        rintro e w30 hG
        by_cases hE : grindE hs ms = 0
        · obtain ⟨f1, f2, G, f3, f4⟩ := grindE_zero hE
          obtain ⟨A5, n5, c5, rfl, hn5, hnc, hc5, hb30, hp5⟩ := hG.ok f1 f2 f3 f4
          have hfin := grind_fin f1 f4 f3 (movV_zero f2).2
          have hF5 : errF (lotF G) hs = 0 := (finV_true (by rw [hfin])).1
          have HMM : Hid (belowV (lotF G) 20 = sumM hs ∧ belowV hs 20 = sumM hs) := by
            obtain ⟨_, _, q3⟩ := errF_zero hF5
            exact ⟨by rw [mass_of f4, q3], mass_of f1⟩
          have HCK : Hid (checkE (lotF G) hs ms = 0) := by
            show _ = _
            unfold checkE
            rw [if_pos hF5, if_pos hE, f3]
            simp [same]
          have HFIN := Lib.hid hfin; have HF4 := Lib.hid f4; have HF1 := Lib.hid f1; have HN5 := Lib.hid hn5
          have hn56 : n5 ≤ maxLen := Nat.le_trans hnc hc5
          clear hG hE f1 f2 f3 f4 hfin hF5 hn5
          clear c0 c1 c2 c3 c4
          obtain ⟨c0, c1, c2, c3, c4⟩ := Held1.out w30 (by (repeat (first | exact Bel.refl _ | assumption | refine Bel.drew ?_ | refine Bel.drewN ?_ _ | refine Bel.alloc ?_ _ | refine Bel.setCell ?_ (by first | omega | (simp; done) | (simp; omega) | (simp at *; omega)) _ | refine Bel.trans ?_ (by assumption))))
          go_wp2_with fail
          refine (wFiner_any A5 B n5 c5 m e (lotF G) hs _ hp5 (hS1.bel (by (repeat (first | exact Bel.refl _ | assumption | refine Bel.drew ?_ | refine Bel.drewN ?_ _ | refine Bel.alloc ?_ _ | refine Bel.setCell ?_ (by first | omega | (simp; done) | (simp; omega) | (simp at *; omega)) _ | refine Bel.trans ?_ (by assumption))))) HN5.out.symm Hm.out hn56 hmax2).mono ?_
          rintro e w31 ⟨rfl, hb31⟩
          rw [HFIN.out]
          unfold boolE
          clear c0 c1 c2 c3 c4
          obtain ⟨c0, c1, c2, c3, c4⟩ := Held1.out w31 (by (repeat (first | exact Bel.refl _ | assumption | refine Bel.drew ?_ | refine Bel.drewN ?_ _ | refine Bel.alloc ?_ _ | refine Bel.setCell ?_ (by first | omega | (simp; done) | (simp; omega) | (simp at *; omega)) _ | refine Bel.trans ?_ (by assumption))))
          go_wp2_with fail
          refine (wMass_any A5 n5 c5 (lotF G) _ (hp5.bel (by (repeat (first | exact Bel.refl _ | assumption | refine Bel.drew ?_ | refine Bel.drewN ?_ _ | refine Bel.alloc ?_ _ | refine Bel.setCell ?_ (by first | omega | (simp; done) | (simp; omega) | (simp at *; omega)) _ | refine Bel.trans ?_ (by assumption))))) HN5.out.symm hn56).mono ?_
          rintro e w32 ⟨rfl, hb32⟩
          rw [HMM.out.1, HF4.out]
          clear c0 c1 c2 c3 c4
          obtain ⟨c0, c1, c2, c3, c4⟩ := Held1.out w32 (by (repeat (first | exact Bel.refl _ | assumption | refine Bel.drew ?_ | refine Bel.drewN ?_ _ | refine Bel.alloc ?_ _ | refine Bel.setCell ?_ (by first | omega | (simp; done) | (simp; omega) | (simp at *; omega)) _ | refine Bel.trans ?_ (by assumption))))
          go_wp2_with fail
          refine (wMass_any B m e hs _ (hS1.bel (by (repeat (first | exact Bel.refl _ | assumption | refine Bel.drew ?_ | refine Bel.drewN ?_ _ | refine Bel.alloc ?_ _ | refine Bel.setCell ?_ (by first | omega | (simp; done) | (simp; omega) | (simp at *; omega)) _ | refine Bel.trans ?_ (by assumption))))) Hm.out hmax2).mono ?_
          rintro e w33 ⟨rfl, hb33⟩
          rw [HMM.out.2, HF1.out]
          clear c0 c1 c2 c3 c4
          obtain ⟨c0, c1, c2, c3, c4⟩ := Held1.out w33 (by (repeat (first | exact Bel.refl _ | assumption | refine Bel.drew ?_ | refine Bel.drewN ?_ _ | refine Bel.alloc ?_ _ | refine Bel.setCell ?_ (by first | omega | (simp; done) | (simp; omega) | (simp at *; omega)) _ | refine Bel.trans ?_ (by assumption))))
          go_wp2_with fail
          refine (wCheck_any A5 B C n5 c5 m e l k (lotF G) hs ms _ (hp5.bel (by (repeat (first | exact Bel.refl _ | assumption | refine Bel.drew ?_ | refine Bel.drewN ?_ _ | refine Bel.alloc ?_ _ | refine Bel.setCell ?_ (by first | omega | (simp; done) | (simp; omega) | (simp at *; omega)) _ | refine Bel.trans ?_ (by assumption))))) (hS1.bel (by (repeat (first | exact Bel.refl _ | assumption | refine Bel.drew ?_ | refine Bel.drewN ?_ _ | refine Bel.alloc ?_ _ | refine Bel.setCell ?_ (by first | omega | (simp; done) | (simp; omega) | (simp at *; omega)) _ | refine Bel.trans ?_ (by assumption))))) (hV1.bel (by (repeat (first | exact Bel.refl _ | assumption | refine Bel.drew ?_ | refine Bel.drewN ?_ _ | refine Bel.alloc ?_ _ | refine Bel.setCell ?_ (by first | omega | (simp; done) | (simp; omega) | (simp at *; omega)) _ | refine Bel.trans ?_ (by assumption))))) HN5.out.symm Hm.out Hl.out hn56 hmax2 hmax3).mono ?_
          rintro e w34 ⟨rfl, hb34⟩
          rw [HCK.out]
          go_wp2
          go_ret
          exact ⟨rfl, by (repeat (first | exact Bel.refl _ | assumption | refine Bel.drew ?_ | refine Bel.drewN ?_ _ | refine Bel.alloc ?_ _ | refine Bel.setCell ?_ (by first | omega | (simp; done) | (simp; omega) | (simp at *; omega)) _ | refine Bel.trans ?_ (by assumption)))⟩
        · obtain ⟨rfl, hb30⟩ := hG.err hE
          obtain ⟨ge, hge⟩ : ∃ ge, ge = grindE hs ms := ⟨_, rfl⟩
          rw [← hge] at hE ⊢
          have hne : (ge != 0) = true := by simpa using hE
          clear hge hE hG
          go_wp2
          go_ret
          exact ⟨rfl, by (repeat (first | exact Bel.refl _ | assumption | refine Bel.drew ?_ | refine Bel.drewN ?_ _ | refine Bel.alloc ?_ _ | refine Bel.setCell ?_ (by first | omega | (simp; done) | (simp; omega) | (simp at *; omega)) _ | refine Bel.trans ?_ (by assumption)))⟩
      · obtain ⟨v1, v2, v3⟩ := finV_true hf
        obtain ⟨z1, z2, z3⟩ := errF_zero v1
        have HFV := Lib.hid hf; have HV3 := Lib.hid v3
        have HWE : Hid (workE gs hs = .tuple #[.int .i64 (sumS hs - sumS gs), .bool true, .int .i64 0]) := by show _ = _; unfold workE; rw [if_pos hf]
        have HZ1 := Lib.hid z1; have HZ2 := Lib.hid z2
        have hz : (finV gs hs).2 = 0 := by rw [v3]
        rw [hz]
        clear hf v1 v2 v3 z1 z2 z3 hz
        go_wp2_with fail
        refine (wMoves_yes A B n c m e gs hs _ (hR1.bel (by (repeat (first | exact Bel.refl _ | assumption | refine Bel.drew ?_ | refine Bel.drewN ?_ _ | refine Bel.alloc ?_ _ | refine Bel.setCell ?_ (by first | omega | (simp; done) | (simp; omega) | (simp at *; omega)) _ | refine Bel.trans ?_ (by assumption))))) (hS1.bel (by (repeat (first | exact Bel.refl _ | assumption | refine Bel.drew ?_ | refine Bel.drewN ?_ _ | refine Bel.alloc ?_ _ | refine Bel.setCell ?_ (by first | omega | (simp; done) | (simp; omega) | (simp at *; omega)) _ | refine Bel.trans ?_ (by assumption))))) Hn.out Hm.out hmax hmax2 HFV.out).mono ?_
        rintro e w21 ⟨A4, n4, c4', P, rfl, hn4, h12, hb21, htr, hC⟩
        have HN4 := Lib.hid hn4.symm
        obtain ⟨y1, y2, G0, y3, y4⟩ := checkE_zero hC
        obtain ⟨y5, y6, -⟩ := grindE_zero y2
        have hok := (movV_zero y6).2
        have HWW : Hid (workM P = sumS hs - sumS gs) := work_all HZ1.out HZ2.out y3 hok y4
        have HOK := Lib.hid hok; have HCP := Lib.hid hC
        have hwb := workM_bd hok
        clear hn4 hC y1 y2 y3 y4 y5 y6 hok
        clear c0 c1 c2 c3 c4
        obtain ⟨c0, c1, c2, c3, c4⟩ := Held1.out w21 (by (repeat (first | exact Bel.refl _ | assumption | refine Bel.drew ?_ | refine Bel.drewN ?_ _ | refine Bel.alloc ?_ _ | refine Bel.setCell ?_ (by first | omega | (simp; done) | (simp; omega) | (simp at *; omega)) _ | refine Bel.trans ?_ (by assumption))))
        go_wp2_with fail
        refine (wWork_any A B n c m e gs hs _ (hR1.bel (by (repeat (first | exact Bel.refl _ | assumption | refine Bel.drew ?_ | refine Bel.drewN ?_ _ | refine Bel.alloc ?_ _ | refine Bel.setCell ?_ (by first | omega | (simp; done) | (simp; omega) | (simp at *; omega)) _ | refine Bel.trans ?_ (by assumption))))) (hS1.bel (by (repeat (first | exact Bel.refl _ | assumption | refine Bel.drew ?_ | refine Bel.drewN ?_ _ | refine Bel.alloc ?_ _ | refine Bel.setCell ?_ (by first | omega | (simp; done) | (simp; omega) | (simp at *; omega)) _ | refine Bel.trans ?_ (by assumption))))) Hn.out Hm.out hmax hmax2).mono ?_
        rintro e w22 ⟨rfl, hb22⟩
        rw [HWE.out, ← HWW.out]
        clear c0 c1 c2 c3 c4
        obtain ⟨c0, c1, c2, c3, c4⟩ := Held1.out w22 (by (repeat (first | exact Bel.refl _ | assumption | refine Bel.drew ?_ | refine Bel.drewN ?_ _ | refine Bel.alloc ?_ _ | refine Bel.setCell ?_ (by first | omega | (simp; done) | (simp; omega) | (simp at *; omega)) _ | refine Bel.trans ?_ (by assumption))))
        go_wp2
        go_loopw [24, 25] (fun a i wr => ∃ q : Nat, q ≤ n4 ∧ i = .int .i64 q ∧ a = .int .i64 (workM (P.take q)) ∧ Bel w22 wr) (fun _ i _ => n4 - (intOf i).toNat)
        case atStart => exact ⟨0, Nat.zero_le _, rfl, by simp [workM], Bel.refl _⟩
        case round =>
          obtain ⟨q, hq, rfl, rfl, hb23⟩ := hrel
          clear c0 c1 c2 c3 c4
          obtain ⟨c0, c1, c2, c3, c4⟩ := Held1.out wr (by (repeat (first | exact Bel.refl _ | assumption | refine Bel.drew ?_ | refine Bel.drewN ?_ _ | refine Bel.alloc ?_ _ | refine Bel.setCell ?_ (by first | omega | (simp; done) | (simp; omega) | (simp at *; omega)) _ | refine Bel.trans ?_ (by assumption))))
          by_cases hlt : q < n4
          · obtain ⟨b, o, mf, mt, mm, rfl, hbl, hgm, h1, h2, h3⟩ := (htr.bel (w' := wr) (by (repeat (first | exact Bel.refl _ | assumption | refine Bel.drew ?_ | refine Bel.drewN ?_ _ | refine Bel.alloc ?_ _ | refine Bel.setCell ?_ (by first | omega | (simp; done) | (simp; omega) | (simp at *; omega)) _ | refine Bel.trans ?_ (by assumption))))).at_ (k := q) (by rw [HN4.out]; exact hlt)
            have hmo := HOK.out _ (List.mem_of_getElem? hgm)
            obtain ⟨k1, k2⟩ := move_bd hmo
            obtain ⟨k3, k4, k5, k6, k7⟩ := moveOk_iff.1 hmo
            have hwq := workM_bd (ms := P.take q) (fun v hv => HOK.out v (List.mem_of_mem_take hv))
            have hlq := List.length_take_le q P
            have HTQ : Hid (workM (P.take (q + 1)) = workM (P.take q) + mm * (mf - mt)) := by show _ = _; rw [take_at hgm, workM_snoc]
            have hqn : (q : Int) < (n4 : Int) := by omega
            have hq0 : (0 : Int) ≤ (q : Int) := by omega
            generalize workM (P.take q) = acc at *
            have W1 : IntKind.i64.wrap (mf - mt) = mf - mt := IntWalk.i64_in _ (by omega)
            have W2 : IntKind.i64.wrap (mm * (mf - mt)) = mm * (mf - mt) := IntWalk.i64_in _ (by omega)
            have W3 : IntKind.i64.wrap (acc + mm * (mf - mt)) = acc + mm * (mf - mt) := IntWalk.i64_in _ (by omega)
            have g1' : (wr.drewN 1).cell? ⟨b, o + q * 3, none⟩ = some (.int .i64 mf) := h1
            clear hgm hmo
            go_wp2
            go_quiet (fail)
            go_wp2
            go_roundw
            case rel => exact ⟨q + 1, by omega, by go_num, by rw [HTQ.out], by (repeat (first | exact Bel.refl _ | assumption | refine Bel.drew ?_ | refine Bel.drewN ?_ _ | refine Bel.alloc ?_ _ | refine Bel.setCell ?_ (by first | omega | (simp; done) | (simp; omega) | (simp at *; omega)) _ | refine Bel.trans ?_ (by assumption)))⟩
            case measure => simp [intOf]; omega
          · obtain rfl : q = n4 := by omega
            have HTP : Hid (P.take q = P) := List.take_of_length_le (by rw [HN4.out]; omega)
            rw [HTP.out]
            generalize workM P = wk at *
            go_wp2_with fail
            refine (wCheck_any A B A4 n c m e q c4' gs hs P _ (hR1.bel (by (repeat (first | exact Bel.refl _ | assumption | refine Bel.drew ?_ | refine Bel.drewN ?_ _ | refine Bel.alloc ?_ _ | refine Bel.setCell ?_ (by first | omega | (simp; done) | (simp; omega) | (simp at *; omega)) _ | refine Bel.trans ?_ (by assumption))))) (hS1.bel (by (repeat (first | exact Bel.refl _ | assumption | refine Bel.drew ?_ | refine Bel.drewN ?_ _ | refine Bel.alloc ?_ _ | refine Bel.setCell ?_ (by first | omega | (simp; done) | (simp; omega) | (simp at *; omega)) _ | refine Bel.trans ?_ (by assumption))))) (htr.bel (by (repeat (first | exact Bel.refl _ | assumption | refine Bel.drew ?_ | refine Bel.drewN ?_ _ | refine Bel.alloc ?_ _ | refine Bel.setCell ?_ (by first | omega | (simp; done) | (simp; omega) | (simp at *; omega)) _ | refine Bel.trans ?_ (by assumption))))) Hn.out Hm.out HN4.out hmax hmax2 (Nat.le_trans h12 (by unfold maxLen; omega))).mono ?_
            rintro e w24 ⟨rfl, hb24⟩
            rw [HCP.out]
            clear c0 c1 c2 c3 c4
            obtain ⟨c0, c1, c2, c3, c4⟩ := Held1.out w24 (by (repeat (first | exact Bel.refl _ | assumption | refine Bel.drew ?_ | refine Bel.drewN ?_ _ | refine Bel.alloc ?_ _ | refine Bel.setCell ?_ (by first | omega | (simp; done) | (simp; omega) | (simp at *; omega)) _ | refine Bel.trans ?_ (by assumption))))
            go_wp2_with fail
            refine (wGrind_any B C m e l k hs ms _ (hS1.bel (by (repeat (first | exact Bel.refl _ | assumption | refine Bel.drew ?_ | refine Bel.drewN ?_ _ | refine Bel.alloc ?_ _ | refine Bel.setCell ?_ (by first | omega | (simp; done) | (simp; omega) | (simp at *; omega)) _ | refine Bel.trans ?_ (by assumption))))) (hV1.bel (by (repeat (first | exact Bel.refl _ | assumption | refine Bel.drew ?_ | refine Bel.drewN ?_ _ | refine Bel.alloc ?_ _ | refine Bel.setCell ?_ (by first | omega | (simp; done) | (simp; omega) | (simp at *; omega)) _ | refine Bel.trans ?_ (by assumption))))) Hm.out Hl.out hmax2 hmax3).mono ?_
            rintro e w30 hG
            by_cases hE : grindE hs ms = 0
            · obtain ⟨f1, f2, G, f3, f4⟩ := grindE_zero hE
              obtain ⟨A5, n5, c5, rfl, hn5, hnc, hc5, hb30, hp5⟩ := hG.ok f1 f2 f3 f4
              have hfin := grind_fin f1 f4 f3 (movV_zero f2).2
              have hF5 : errF (lotF G) hs = 0 := (finV_true (by rw [hfin])).1
              have HMM : Hid (belowV (lotF G) 20 = sumM hs ∧ belowV hs 20 = sumM hs) := by
                obtain ⟨_, _, q3⟩ := errF_zero hF5
                exact ⟨by rw [mass_of f4, q3], mass_of f1⟩
              have HCK : Hid (checkE (lotF G) hs ms = 0) := by
                show _ = _
                unfold checkE
                rw [if_pos hF5, if_pos hE, f3]
                simp [same]
              have HFIN := Lib.hid hfin; have HF4 := Lib.hid f4; have HF1 := Lib.hid f1; have HN5 := Lib.hid hn5
              have hn56 : n5 ≤ maxLen := Nat.le_trans hnc hc5
              clear hG hE f1 f2 f3 f4 hfin hF5 hn5
              clear c0 c1 c2 c3 c4
              obtain ⟨c0, c1, c2, c3, c4⟩ := Held1.out w30 (by (repeat (first | exact Bel.refl _ | assumption | refine Bel.drew ?_ | refine Bel.drewN ?_ _ | refine Bel.alloc ?_ _ | refine Bel.setCell ?_ (by first | omega | (simp; done) | (simp; omega) | (simp at *; omega)) _ | refine Bel.trans ?_ (by assumption))))
              go_wp2_with fail
              refine (wFiner_any A5 B n5 c5 m e (lotF G) hs _ hp5 (hS1.bel (by (repeat (first | exact Bel.refl _ | assumption | refine Bel.drew ?_ | refine Bel.drewN ?_ _ | refine Bel.alloc ?_ _ | refine Bel.setCell ?_ (by first | omega | (simp; done) | (simp; omega) | (simp at *; omega)) _ | refine Bel.trans ?_ (by assumption))))) HN5.out.symm Hm.out hn56 hmax2).mono ?_
              rintro e w31 ⟨rfl, hb31⟩
              rw [HFIN.out]
              unfold boolE
              clear c0 c1 c2 c3 c4
              obtain ⟨c0, c1, c2, c3, c4⟩ := Held1.out w31 (by (repeat (first | exact Bel.refl _ | assumption | refine Bel.drew ?_ | refine Bel.drewN ?_ _ | refine Bel.alloc ?_ _ | refine Bel.setCell ?_ (by first | omega | (simp; done) | (simp; omega) | (simp at *; omega)) _ | refine Bel.trans ?_ (by assumption))))
              go_wp2_with fail
              refine (wMass_any A5 n5 c5 (lotF G) _ (hp5.bel (by (repeat (first | exact Bel.refl _ | assumption | refine Bel.drew ?_ | refine Bel.drewN ?_ _ | refine Bel.alloc ?_ _ | refine Bel.setCell ?_ (by first | omega | (simp; done) | (simp; omega) | (simp at *; omega)) _ | refine Bel.trans ?_ (by assumption))))) HN5.out.symm hn56).mono ?_
              rintro e w32 ⟨rfl, hb32⟩
              rw [HMM.out.1, HF4.out]
              clear c0 c1 c2 c3 c4
              obtain ⟨c0, c1, c2, c3, c4⟩ := Held1.out w32 (by (repeat (first | exact Bel.refl _ | assumption | refine Bel.drew ?_ | refine Bel.drewN ?_ _ | refine Bel.alloc ?_ _ | refine Bel.setCell ?_ (by first | omega | (simp; done) | (simp; omega) | (simp at *; omega)) _ | refine Bel.trans ?_ (by assumption))))
              go_wp2_with fail
              refine (wMass_any B m e hs _ (hS1.bel (by (repeat (first | exact Bel.refl _ | assumption | refine Bel.drew ?_ | refine Bel.drewN ?_ _ | refine Bel.alloc ?_ _ | refine Bel.setCell ?_ (by first | omega | (simp; done) | (simp; omega) | (simp at *; omega)) _ | refine Bel.trans ?_ (by assumption))))) Hm.out hmax2).mono ?_
              rintro e w33 ⟨rfl, hb33⟩
              rw [HMM.out.2, HF1.out]
              clear c0 c1 c2 c3 c4
              obtain ⟨c0, c1, c2, c3, c4⟩ := Held1.out w33 (by (repeat (first | exact Bel.refl _ | assumption | refine Bel.drew ?_ | refine Bel.drewN ?_ _ | refine Bel.alloc ?_ _ | refine Bel.setCell ?_ (by first | omega | (simp; done) | (simp; omega) | (simp at *; omega)) _ | refine Bel.trans ?_ (by assumption))))
              go_wp2_with fail
              refine (wCheck_any A5 B C n5 c5 m e l k (lotF G) hs ms _ (hp5.bel (by (repeat (first | exact Bel.refl _ | assumption | refine Bel.drew ?_ | refine Bel.drewN ?_ _ | refine Bel.alloc ?_ _ | refine Bel.setCell ?_ (by first | omega | (simp; done) | (simp; omega) | (simp at *; omega)) _ | refine Bel.trans ?_ (by assumption))))) (hS1.bel (by (repeat (first | exact Bel.refl _ | assumption | refine Bel.drew ?_ | refine Bel.drewN ?_ _ | refine Bel.alloc ?_ _ | refine Bel.setCell ?_ (by first | omega | (simp; done) | (simp; omega) | (simp at *; omega)) _ | refine Bel.trans ?_ (by assumption))))) (hV1.bel (by (repeat (first | exact Bel.refl _ | assumption | refine Bel.drew ?_ | refine Bel.drewN ?_ _ | refine Bel.alloc ?_ _ | refine Bel.setCell ?_ (by first | omega | (simp; done) | (simp; omega) | (simp at *; omega)) _ | refine Bel.trans ?_ (by assumption))))) HN5.out.symm Hm.out Hl.out hn56 hmax2 hmax3).mono ?_
              rintro e w34 ⟨rfl, hb34⟩
              rw [HCK.out]
              go_wp2
              go_ret
              exact ⟨rfl, by (repeat (first | exact Bel.refl _ | assumption | refine Bel.drew ?_ | refine Bel.drewN ?_ _ | refine Bel.alloc ?_ _ | refine Bel.setCell ?_ (by first | omega | (simp; done) | (simp; omega) | (simp at *; omega)) _ | refine Bel.trans ?_ (by assumption)))⟩
            · obtain ⟨rfl, hb30⟩ := hG.err hE
              obtain ⟨ge, hge⟩ : ∃ ge, ge = grindE hs ms := ⟨_, rfl⟩
              rw [← hge] at hE ⊢
              have hne : (ge != 0) = true := by simpa using hE
              clear hge hE hG
              go_wp2
              go_ret
              exact ⟨rfl, by (repeat (first | exact Bel.refl _ | assumption | refine Bel.drew ?_ | refine Bel.drewN ?_ _ | refine Bel.alloc ?_ _ | refine Bel.setCell ?_ (by first | omega | (simp; done) | (simp; omega) | (simp at *; omega)) _ | refine Bel.trans ?_ (by assumption)))⟩

end Go.Proofs.Ytmbhhooiaonhjaa.topWash
