/- feud.Merge, walked. -/
import Derived.Test.YtcndmfkbfimllaaBE
import Derived.Deep.RegionHeld3
namespace Go.Proofs.Ytcndmfkbfimllaa
open Go.RowKit Go.Maps

/-- A feud once the two paints of another are one. -/
def mgF (e f : Nat × Nat) : Nat × Nat := (min (mgd f.1 e.1 e.2) (mgd f.2 e.1 e.2), max (mgd f.1 e.1 e.2) (mgd f.2 e.1 e.2))
theorem mgd_le {x a b : Nat} (hx : x ≤ 1000) (ha : a ≤ 1000) : mgd x a b ≤ 1000 := by
  unfold mgd
  split
  · exact ha
  · split <;> omega
theorem written_q (P : Int) (q : Nat) (M : Nat) (G : List (Nat × Nat)) (b : Bool) (w : World) (hP : P = (q : Int)) (hF : FM w M G) (p7 : q ≤ 7) :
    Calls Try.prog 111 #[.agg #[.int .i64 P, .map (some M)], .bool b] w (ShopOnly w P (up (wrTo G b q q))) := by
  subst hP
  exact written_any q M G b w hF p7
structure MIn (w wr : World) (p : Int) (G : List (Nat × Nat)) : Prop where
  bel : Bel w wr
  fm : FM wr w.heap.size G
  c0 : wr.cell? ⟨w.heap.size + 1, 0, none⟩ = some (.int .i64 p)
  c1 : wr.cell? ⟨w.heap.size + 1, 1, none⟩ = some (.map (some w.heap.size))
  sz : w.heap.size + 1 < wr.heap.size
theorem MIn.beL {w wr w' : World} {p : Int} {G : List (Nat × Nat)} (h : MIn w wr p G) (hb : Bel wr w') : MIn w w' p G :=
  ⟨h.bel.trans hb, h.fm.bel hb, by rw [hb.use.1 _ _ h.sz]; exact h.c0, by rw [hb.use.1 _ _ h.sz]; exact h.c1, Nat.lt_of_lt_of_le h.sz hb.size⟩
theorem MIn.put {w wr W w3 : World} {p : Int} {G : List (Nat × Nat)} {f : Nat × Nat} (h : MIn w wr p G) (hW : Bel wr W) (hf : f.1 ≤ 1000 ∧ f.2 ≤ 1000) (hl : G.length < 1000)
    (hown : w3.ownsMap Try.prog 45 bR w.heap.size (1000 + 1) ((setOf yesD (G.map keyL)).put (keyL f) yesD)) (hg : W.grownBy w3 (some w.heap.size)) : MIn w w3 p (G ++ [f]) := by
  have hs := h.sz
  have hWs := hW.size
  have hgs := hg.size
  have hbl := hg.block (w.heap.size + 1) (by omega) (fun e => by have := Option.some.inj e; omega)
  have cell : ∀ i, w3.cell? ⟨w.heap.size + 1, i, none⟩ = wr.cell? ⟨w.heap.size + 1, i, none⟩ := fun i =>
    (World.cell?_of_block (w := W) (a := ⟨w.heap.size + 1, i, none⟩) hbl).trans (hW.use.1 _ _ hs)
  refine ⟨Below.grown (h.bel.trans hW) hg (h.bel.trans hW).size (fun k hk => by injection hk with hk; omega), ?_, ?_, ?_, by omega⟩
  · refine FM.of (n := 1000 + 1) ?_ (fun x hx => ?_) (by simp; omega)
    · rw [List.map_append, List.map_cons, List.map_nil, setOf_snoc]; exact hown
    · rcases List.mem_append.1 hx with hx | hx
      · exact h.fm.1 x hx
      · obtain rfl := List.mem_singleton.1 hx; exact hf
  · rw [cell]; exact h.c0
  · rw [cell]; exact h.c1
theorem MIn.start (w : World) (p : Int) (G : List (Nat × Nat)) (hG : G = []) (ty : TypeId) :
    MIn w ((w.alloc (.map #[] 0)).alloc (.cells #[.int .i64 p, .map (some w.heap.size)] ty)) p G := by
  subst hG
  exact ⟨by (repeat (first | exact Bel.refl _ | assumption | refine Bel.drew ?_ | refine Bel.drewN ?_ _ | refine Bel.alloc ?_ _ | refine Bel.setCell ?_ (by first | omega | (simp; done) | (simp; omega) | (simp at *; omega)) _ | refine Bel.trans ?_ (by assumption))), (FM.made w).bel ((Bel.refl _).alloc _), by go_simp, by go_simp, by simp⟩
theorem pair_boxI {w w' : World} {x y : Int} {ty : TypeId} (h : Bel (w.alloc (.cells #[.int .i64 x, .int .i64 y] ty)) w') : w'.cell? ⟨w.heap.size, 0, none⟩ = some (.int .i64 x) ∧ w'.cell? ⟨w.heap.size, 1, none⟩ = some (.int .i64 y) := by
  refine ⟨?_, ?_⟩ <;> (rw [h.use.1 _ _ (by simp)]; go_simp)

set_option maxRecDepth 100000 in
set_option maxHeartbeats 800000 in
theorem merge_ok (p : Nat) (A : Option Addr) (n c : Nat) (G : List (Nat × Nat)) (k : Nat) (f : Nat × Nat) (w : World) (hR : Prs w A (up G)) (hn : G.length = n) (h60 : n ≤ 900) (hS : Shop p G) (hk : k < n) (hf : G[k]? = some f) :
    Calls Try.prog 75 #[.agg #[.int .i64 (p : Int), .slice A n c], .int .i64 (k : Int)] w (ShopRes w ((p : Int) - 1) (up (wrTo (G.map (mgF f)) true (p - 1) (p - 1)))) := by
  obtain ⟨f1, f2⟩ := f
  have HE := Lib.hid (errK_ok (k := (k : Int)) hS.err (by rw [up_length, hn]; omega))
  have Hn := Lib.hid hn
  have Hu := Lib.hid (show (up G).length = n by rw [up_length]; exact hn)
  have HSm := Lib.hid hS.small
  have p7 := hS.p7
  have p1 : 1 ≤ p := hS.p1
  have hpi : (p : Int) ≤ 7 := by omega
  have hpi1 : 1 ≤ (p : Int) := by omega
  have hki : (k : Int) < (n : Int) := by omega
  have hk0 : (0 : Int) ≤ (k : Int) := by omega
  have hni : (n : Int) ≤ 900 := by omega
  have HF := Lib.hid hf
  have Held := Lib.hid (fun w' (h : Bel (w.alloc (.cells #[.int .i64 (p : Int), .slice A n c] 24)) w') => pair_box h)
  obtain ⟨bk, ok, x0, y0, hAk, hblk, hgk, hck1, hck2⟩ := up_at hR (k := k) (by omega)
  rw [hf] at hgk
  injection hgk with hgk
  injection hgk with e1 e2
  subst e1 e2
  subst hAk
  have HEk := Lib.hid (fun w' (h : Bel w w') => show w'.cell? ⟨bk, ok + k * 2, none⟩ = some (.int .i64 (f1 : Int)) ∧ w'.cell? ⟨bk, ok + k * 2 + 1, none⟩ = some (.int .i64 (f2 : Int)) from ⟨by rw [h.use.1 _ _ hblk]; exact hck1, by rw [h.use.1 _ _ hblk]; exact hck2⟩)
  obtain ⟨hf1, hf2⟩ := HSm.out (f1, f2) (List.mem_of_getElem? hf)
  simp only at hf1 hf2
  have HF1 := Lib.hid hf1; have HF2 := Lib.hid hf2
  clear hn hS hf hck1 hck2 hf1 hf2
  go_enter Try.func75, Try.ntmps75
  go_wp2_with fail
  refine (validateFeud_any p _ n c (up G) k _ (hR.bel (by (repeat (first | exact Bel.refl _ | assumption | refine Bel.drew ?_ | refine Bel.drewN ?_ _ | refine Bel.alloc ?_ _ | refine Bel.setCell ?_ (by first | omega | (simp; done) | (simp; omega) | (simp at *; omega)) _ | refine Bel.trans ?_ (by assumption))))) Hu.out h60).mono ?_
  rintro e w1 ⟨rfl, hb1⟩
  rw [HE.out]
  have hb01 : Bel (w.alloc (.cells #[.int .i64 (p : Int), .slice (some ⟨bk, ok, none⟩) n c] 24)) w1 := ((Bel.refl _).alloc _).trans hb1
  obtain ⟨c0, c1⟩ := Held.out _ hb01
  have hsz1 : w.heap.size < w1.heap.size := by have := hb1.size; simp at this; omega
  have hsz2 : w.heap.size + 1 < w1.heap.size := by have := hb1.size; simp at this; omega
  have hres := Lib.hid (fun w' (h : Bel w1 w') => show (w'.cell? ⟨w.heap.size + 1, 0, none⟩ = some (.int .i64 0) ∧ w'.cell? ⟨w.heap.size + 1, 1, none⟩ = some (.slice none 0 0)) ∧ ∀ o, w'.frozen? ⟨w.heap.size + 1, o, none⟩ = false from by
    have h2 := hb1.trans h
    refine ⟨⟨?_, ?_⟩, fun o => ?_⟩
    · rw [h2.use.1 _ _ (by simp)]; go_simp
    · rw [h2.use.1 _ _ (by simp)]; go_simp
    · rw [h2.use.2.1 _ _ (by simp)]; go_simp)
  have hbw1 : Bel w w1 := ((Bel.refl w).alloc _).trans hb01
  have HB1 := Lib.hid hbw1
  have hmm := @run_makeMap Try.prog
  go_wp2
  clear hmm c0 c1
  go_loopw [27] (fun i wr => ∃ q : Nat, q ≤ n ∧ i = .int .i64 q ∧ MIn w1 wr ((p : Int) - 1) ((G.take q).map (mgF (f1, f2)))) (fun i _ => n - (intOf i).toNat)
  case atStart => exact ⟨0, Nat.zero_le _, rfl, MIn.start _ _ _ (by simp) _⟩
  case round =>
    obtain ⟨q, hq, rfl, hM⟩ := hrel
    have hbw : Bel w wr := HB1.out.trans hM.bel
    obtain ⟨d0, d1⟩ := Held.out _ (hb01.trans hM.bel)
    by_cases hlt : q < n
    · have hqn : (q : Int) < (n : Int) := by omega
      obtain ⟨b, o, x, y, hAe, hbl, hg, hc1, hc2⟩ := up_at (hR.bel hbw) (k := q) (by rw [Hn.out]; exact hlt)
      injection hAe with hAe
      injection hAe with e1 e2 e3
      subst e1 e2
      have hsm := HSm.out (x, y) (List.mem_of_getElem? hg)
      obtain ⟨hx, hy⟩ := hsm
      simp only at hx hy
      have HX := Lib.hid hx; have HY := Lib.hid hy
      have HT := Lib.hid (take_at hg)
      have HLn := Lib.hid (show ((G.take q).map (mgF (f1, f2))).length < 1000 by rw [List.length_map, List.length_take]; have := Hn.out; omega)
      have HMI := Lib.hid hM
      obtain ⟨m1, hm1⟩ : ∃ m1, m1 = mgd x f1 f2 := ⟨_, rfl⟩
      obtain ⟨m2, hm2⟩ : ∃ m2, m2 = mgd y f1 f2 := ⟨_, rfl⟩
      have HM1 := Lib.hid hm1; have HM2 := Lib.hid hm2
      have hl1 : m1 ≤ 1000 := by rw [hm1]; exact mgd_le hx HF1.out
      have hl2 : m2 ≤ 1000 := by rw [hm2]; exact mgd_le hy HF1.out
      have HL1 := Lib.hid hl1; have HL2 := Lib.hid hl2
      have hszr := hM.sz
      have HS := Lib.hid (fun w' (h : Bel (wr.alloc (.cells #[.int .i64 (x : Int), .int .i64 (y : Int)] 45)) w') =>
        And.intro (pair_boxI h) (And.intro (Held.out w' (hb01.trans (hM.bel.trans (((Bel.refl wr).alloc _).trans h)))) (And.intro (HEk.out w' (hbw.trans (((Bel.refl wr).alloc _).trans h))) (hM.beL (((Bel.refl wr).alloc _).trans h)).c1)))
      have hHM : mgF (f1, f2) (x, y) = (min m1 m2, max m1 m2) := by rw [hm1, hm2]; rfl
      have HT2 : Hid ((G.take (q + 1)).map (mgF (f1, f2)) = (G.take q).map (mgF (f1, f2)) ++ [(min m1 m2, max m1 m2)]) := by
        show _ = _
        rw [HT.out, List.map_append, List.map_cons, List.map_nil, hHM]
      clear hg hx hy hm1 hm2 hHM hl1 hl2 hM
      go_wp2
      go_region_held3 (fun w' => Bel (wr.alloc (.cells #[.int .i64 (x : Int), .int .i64 (y : Int)] 45)) w' ∧ (w'.cell? ⟨wr.heap.size, 0, none⟩ = some (.int .i64 (x : Int)) ∧ w'.cell? ⟨wr.heap.size, 1, none⟩ = some (.int .i64 (y : Int))) ∧ (w'.cell? ⟨w.heap.size, 0, none⟩ = some (.int .i64 (p : Int)) ∧ w'.cell? ⟨w.heap.size, 1, none⟩ = some (.slice (some ⟨bk, ok, none⟩) n c)) ∧ (w'.cell? ⟨bk, ok + k * 2, none⟩ = some (.int .i64 (f1 : Int)) ∧ w'.cell? ⟨bk, ok + k * 2 + 1, none⟩ = some (.int .i64 (f2 : Int))) ∧ w'.cell? ⟨w1.heap.size + 1, 1, none⟩ = some (.map (some w1.heap.size))) (exact ⟨by (repeat (first | exact Bel.refl _ | assumption | refine Bel.drew ?_ | refine Bel.drewN ?_ _ | refine Bel.alloc ?_ _ | refine Bel.setCell ?_ (by first | omega | (simp; done) | (simp; omega) | (simp at *; omega)) _ | refine Bel.trans ?_ (by assumption))), HS.out _ (by (repeat (first | exact Bel.refl _ | assumption | refine Bel.drew ?_ | refine Bel.drewN ?_ _ | refine Bel.alloc ?_ _ | refine Bel.setCell ?_ (by first | omega | (simp; done) | (simp; omega) | (simp at *; omega)) _ | refine Bel.trans ?_ (by assumption))))⟩)
        (first | (go_at_call_of 110 (Value.int .i64 (x : Int)); refine (merged_any x f1 f2 _ HX.out HF1.out HF2.out).mono ?_; rintro e w4 ⟨rfl, hb4⟩; rw [← HM1.out]) | (go_at_call_of 110 (Value.int .i64 (y : Int)); refine (merged_any y f1 f2 _ HY.out HF1.out HF2.out).mono ?_; rintro e w5 ⟨rfl, hb5⟩; rw [← HM2.out]))
      all_goals
        rcases (by omega : m1 < m2 ∨ m2 < m1 ∨ m1 = m2) with hlm | hlm | hlm
        · have hlI : (m1 : Int) < (m2 : Int) := by omega
          have HT3 := Lib.hid (show (G.take (q + 1)).map (mgF (f1, f2)) = (G.take q).map (mgF (f1, f2)) ++ [(m1, m2)] by rw [HT2.out, Nat.min_eq_left (by omega), Nat.max_eq_right (by omega)])
          go_wp2_with (at_mapUpdate; go_loud (refine wpList_mapUpdate_own _ rfl _ _ _ 68 rfl 45 4 feudKeyed Try.underlying68 bR w1.heap.size 1000 (setOf yesD (((G.take q).map (mgF (f1, f2))).map keyL)) rfl ((HMI.out.fm.bel (by (repeat (first | exact Bel.refl _ | assumption | refine Bel.drew ?_ | refine Bel.drewN ?_ _ | refine Bel.alloc ?_ _ | refine Bel.setCell ?_ (by first | omega | (simp; done) | (simp; omega) | (simp at *; omega)) _ | refine Bel.trans ?_ (by assumption))))).2) (by unfold maxLen; omega) _ _ (keyL (m1, m2)) rfl rfl (keyOf_feud m1 m2 HL1.out HL2.out) yesD [] (bR_mk true) ?_); intro w3 hown3 hgr3)
          have hS3 := HMI.out.put (f := (m1, m2)) (by (repeat (first | exact Bel.refl _ | assumption | refine Bel.drew ?_ | refine Bel.drewN ?_ _ | refine Bel.alloc ?_ _ | refine Bel.setCell ?_ (by first | omega | (simp; done) | (simp; omega) | (simp at *; omega)) _ | refine Bel.trans ?_ (by assumption)))) ⟨HL1.out, HL2.out⟩ HLn.out hown3 hgr3
          clear hown3 hgr3
          go_wp2
          go_roundw
          case rel => exact ⟨q + 1, by omega, by go_num, by rw [HT3.out]; exact hS3⟩
          case measure => simp [intOf]; omega
        · have hlI : (m2 : Int) < (m1 : Int) := by omega
          have HT3 := Lib.hid (show (G.take (q + 1)).map (mgF (f1, f2)) = (G.take q).map (mgF (f1, f2)) ++ [(m2, m1)] by rw [HT2.out, Nat.min_eq_right (by omega), Nat.max_eq_left (by omega)])
          go_wp2_with (at_mapUpdate; go_loud (refine wpList_mapUpdate_own _ rfl _ _ _ 68 rfl 45 4 feudKeyed Try.underlying68 bR w1.heap.size 1000 (setOf yesD (((G.take q).map (mgF (f1, f2))).map keyL)) rfl ((HMI.out.fm.bel (by (repeat (first | exact Bel.refl _ | assumption | refine Bel.drew ?_ | refine Bel.drewN ?_ _ | refine Bel.alloc ?_ _ | refine Bel.setCell ?_ (by first | omega | (simp; done) | (simp; omega) | (simp at *; omega)) _ | refine Bel.trans ?_ (by assumption))))).2) (by unfold maxLen; omega) _ _ (keyL (m2, m1)) rfl rfl (keyOf_feud m2 m1 HL2.out HL1.out) yesD [] (bR_mk true) ?_); intro w3 hown3 hgr3)
          have hS3 := HMI.out.put (f := (m2, m1)) (by (repeat (first | exact Bel.refl _ | assumption | refine Bel.drew ?_ | refine Bel.drewN ?_ _ | refine Bel.alloc ?_ _ | refine Bel.setCell ?_ (by first | omega | (simp; done) | (simp; omega) | (simp at *; omega)) _ | refine Bel.trans ?_ (by assumption)))) ⟨HL2.out, HL1.out⟩ HLn.out hown3 hgr3
          clear hown3 hgr3
          go_wp2
          go_roundw
          case rel => exact ⟨q + 1, by omega, by go_num, by rw [HT3.out]; exact hS3⟩
          case measure => simp [intOf]; omega
        · subst hlm
          have HT3 := Lib.hid (show (G.take (q + 1)).map (mgF (f1, f2)) = (G.take q).map (mgF (f1, f2)) ++ [(m1, m1)] by rw [HT2.out, Nat.min_self, Nat.max_self])
          go_wp2_with (at_mapUpdate; go_loud (refine wpList_mapUpdate_own _ rfl _ _ _ 68 rfl 45 4 feudKeyed Try.underlying68 bR w1.heap.size 1000 (setOf yesD (((G.take q).map (mgF (f1, f2))).map keyL)) rfl ((HMI.out.fm.bel (by (repeat (first | exact Bel.refl _ | assumption | refine Bel.drew ?_ | refine Bel.drewN ?_ _ | refine Bel.alloc ?_ _ | refine Bel.setCell ?_ (by first | omega | (simp; done) | (simp; omega) | (simp at *; omega)) _ | refine Bel.trans ?_ (by assumption))))).2) (by unfold maxLen; omega) _ _ (keyL (m1, m1)) rfl rfl (keyOf_feud m1 m1 HL1.out HL1.out) yesD [] (bR_mk true) ?_); intro w3 hown3 hgr3)
          have hS3 := HMI.out.put (f := (m1, m1)) (by (repeat (first | exact Bel.refl _ | assumption | refine Bel.drew ?_ | refine Bel.drewN ?_ _ | refine Bel.alloc ?_ _ | refine Bel.setCell ?_ (by first | omega | (simp; done) | (simp; omega) | (simp at *; omega)) _ | refine Bel.trans ?_ (by assumption)))) ⟨HL1.out, HL1.out⟩ HLn.out hown3 hgr3
          clear hown3 hgr3
          go_wp2
          go_roundw
          case rel => exact ⟨q + 1, by omega, by go_num, by rw [HT3.out]; exact hS3⟩
          case measure => simp [intOf]; omega
    · obtain rfl : q = n := by omega
      have ht : G.take q = G := List.take_of_length_le (by rw [Hn.out]; omega)
      rw [ht] at hM
      have hFM := hM.fm
      have hc1 := hM.c1
      have hc0 := hM.c0
      have hsz := hM.sz
      have hw1 := hM.bel
      clear ht hM
      go_wp2_with fail
      refine (written_q ((p : Int) - 1) (p - 1) w1.heap.size (G.map (mgF (f1, f2))) true _ (by omega) (hFM.bel (by (repeat (first | exact Bel.refl _ | assumption | refine Bel.drew ?_ | refine Bel.drewN ?_ _ | refine Bel.alloc ?_ _ | refine Bel.setCell ?_ (by first | omega | (simp; done) | (simp; omega) | (simp at *; omega)) _ | refine Bel.trans ?_ (by assumption))))) (by omega)).mono ?_
      rintro e w3 ⟨A9, n9, c9, rfl, hn9, hb9, hI9, hLT⟩
      have HN9 := Lib.hid hn9
      have HP := Lib.hid hI9
      have HLT := Lib.hid hLT
      have hb19 := hw1.trans hb9
      have hs9 := hb19.size
      have hs8 := hb9.size
      have hlt3 : w.heap.size + 1 < w3.heap.size := by omega
      obtain ⟨⟨r0, r1⟩, rf⟩ := hres.out _ hb19
      have rf0 := rf 0
      have rf1 := rf 1
      have HR0 := Lib.hid r0; have HR1 := Lib.hid r1
      clear hn9 hI9 hLT rf
      go_wp2
      obtain ⟨q0, q1⟩ := stored2 (x := .int .i64 ((p : Int) - 1)) (y := .slice A9 n9 c9) HR0.out HR1.out
      refine bodyPost_ret (v := .tuple #[.agg #[.int .i64 ((p : Int) - 1), .slice A9 n9 c9], .int .i64 0]) (by simp [results, Try.results75, go_sem, q0, q1]) rfl ⟨A9, n9, c9, rfl, HN9.out, ?_, ?_, ?_⟩
      · have := HB1.out
        (repeat (first | exact Bel.refl _ | assumption | refine Bel.drew ?_ | refine Bel.drewN ?_ _ | refine Bel.alloc ?_ _ | refine Bel.setCell ?_ (by first | omega | (simp; done) | (simp; omega) | (simp at *; omega)) _ | refine Bel.trans ?_ (by assumption)))
      · refine (HP.out.far (fun b o e => ?_) _).far (fun b o e => ?_) _ <;> (have := (HLT.out b o e).1; have := hw1.size; simp; omega)
      · intro b o e
        have h1 := HLT.out b o e
        have h2 := hw1.size
        exact ⟨by omega, by rw [setCell_size, setCell_size]; exact h1.2⟩
end Go.Proofs.Ytcndmfkbfimllaa
