/- Judging: the first good question. -/
import Derived.Test.YtmklpldmgmjlkaaJD
namespace Go.Proofs.Ytmklpldmgmjlkaa
open Go.RowKit Go.Maps

theorem Known.lt {w : World} {M : Nat} (h : Known w M) : M < w.heap.size := by
  obtain ⟨D, _, ho⟩ := h
  exact ho.lt
theorem Inv.below {w w' : World} {M m s B : Nat} (h : Inv w M m s) (hb : Below B w w') (h1 : m < B) (h2 : s < B) (h3 : M < B) : Inv w' M m s := by
  refine ⟨?_, by rw [hb.cell (p := ⟨m, 0, none⟩) h1]; exact h.cm, by rw [hb.cell (p := ⟨s, 0, none⟩) h2]; exact h.cs, h.nm, h.ns, Nat.lt_of_lt_of_le h.lm hb.size, Nat.lt_of_lt_of_le h.ls hb.size⟩
  obtain ⟨D, hG, es, clock, hh, F, hs, hD⟩ := h.known
  exact ⟨D, hG, es, clock, (hb.block M h3).trans hh, F, hs, hD⟩
theorem Gr.far {M B : Nat} {w w1 w2 : World} (h : Gr M w w1) (hb : Below B w1 w2) (hB : w.heap.size ≤ B) : Gr M w w2 :=
  ⟨hb.os.trans h.os, hb.tape.trans h.tape, hb.output.trans h.output, Nat.le_trans h.size hb.size, fun i hi hne => (hb.block i (by omega)).trans (h.block i hi hne)⟩
theorem after_yes' (a b x y c : Nat) (w : World) (hm : a + b ≤ 48) (hx : x ≤ a) (hy : y ≤ b) (hc : c = y + (a - x)) :
    Calls Try.prog 65 #[.agg #[.int .i64 (a : Int), .int .i64 (b : Int)], .int .i64 (x : Int), .int .i64 (y : Int), .bool true] w fun e w' => e = .returned (.agg #[.int .i64 (x : Int), .int .i64 (c : Int)]) ∧ Bel w w' := by
  subst hc
  exact after_yes a b x y w hm hx hy
theorem after_no' (a b x y d f : Nat) (w : World) (hm : a + b ≤ 48) (hx : x ≤ a) (hy : y ≤ b) (hd : d = a - x) (hf : f = b - y + x) :
    Calls Try.prog 65 #[.agg #[.int .i64 (a : Int), .int .i64 (b : Int)], .int .i64 (x : Int), .int .i64 (y : Int), .bool false] w fun e w' => e = .returned (.agg #[.int .i64 (d : Int), .int .i64 (f : Int)]) ∧ Bel w w' := by
  subst hd hf
  exact after_no a b x y w hm hx hy
theorem none_good {p a b : Nat} (hn : ¬ a + b ≤ 1) (h : ∀ u, u < a / 2 + 1 → ∀ y, y ≤ b → good p a b (a / 2 - u) y = false) : en (p + 1) a b = false := by
  cases he : en (p + 1) a b
  · rfl
  · exfalso
    rcases en_succ.1 he with h1 | ⟨x, y, hx, hy, hg⟩
    · exact hn h1
    · obtain ⟨u, v, hu, hv, hg⟩ := good_half hx hy hg
      have := h (a / 2 - u) (by omega) v hv
      rw [show a / 2 - (a / 2 - u) = u from by omega, hg] at this
      cases this
def Tried (p a b k : Nat) : Prop := ∀ u, u < k → ∀ y, y ≤ b → good p a b (a / 2 - u) y = false
def Tried2 (p a b x k : Nat) : Prop := ∀ y, y < k → good p a b x y = false

theorem stored3 {w : World} {g : Nat} {a b c x y z : Value} (h0 : w.cell? ⟨g, 0, none⟩ = some a) (h1 : w.cell? ⟨g, 1, none⟩ = some b) (h2 : w.cell? ⟨g, 2, none⟩ = some c) :
    (w.setCell ⟨g, 0, none⟩ x).cell? ⟨g, 0, none⟩ = some x ∧ ((w.setCell ⟨g, 0, none⟩ x).setCell ⟨g, 1, none⟩ y).cell? ⟨g, 1, none⟩ = some y ∧ (((w.setCell ⟨g, 0, none⟩ x).setCell ⟨g, 1, none⟩ y).setCell ⟨g, 2, none⟩ z).cell? ⟨g, 2, none⟩ = some z := by
  refine ⟨World.cell?_setCell_same _ _ _ h0, World.cell?_setCell_same _ _ _ (u := b) ?_, World.cell?_setCell_same _ _ _ (u := c) ?_⟩
  · rw [World.cell?_setCell_other _ _ _ _ (by simp)]; exact h1
  · rw [World.cell?_setCell_other _ _ _ _ (by simp), World.cell?_setCell_other _ _ _ _ (by simp)]; exact h2
theorem below3 (n : Nat) (w : World) (x y z : Value) : Below n w (((w.setCell ⟨n + 1, 0, none⟩ x).setCell ⟨n + 1, 1, none⟩ y).setCell ⟨n + 1, 2, none⟩ z) :=
  (((Below.refl _ _).setCell (by simp) _).setCell (by simp) _).setCell (by simp) _
theorem grow2 {M : Nat} {w w' : World} {o o' : Obj} (h : Gr M ((w.alloc o).alloc o') w') : Gr M w w' := (Gr.of_bel (((Bel.refl w).alloc o).alloc o')).trans h
theorem Tried2.more {p a b x k : Nat} (h : Tried2 p a b x k) (hg : good p a b x k = false) : Tried2 p a b x (k + 1) := fun v hv => by
  rcases (by omega : v < k ∨ v = k) with h' | rfl
  · exact h v h'
  · exact hg

set_option maxRecDepth 100000 in
set_option maxHeartbeats 2000000 in
theorem first_any (M m s p : Nat) (hp : p ≤ 12) (ih : Hid (∀ (a b : Nat) (w : World), a + b ≤ 48 → ¬ a + b ≤ 1 → Inv w M m s → Calls Try.prog 56 #[.agg #[.int .i64 (a : Int), .int .i64 (b : Int)], .int .i64 (p : Int), .pointer (some ⟨m, 0, none⟩), .pointer (some ⟨s, 0, none⟩)] w (Sought M m s p a b w)))
    (a b Q : Nat) (w : World) (hm : a + b ≤ 48) (hn : ¬ a + b ≤ 1) (hI : Inv w M m s) (hQ : Q < w.heap.size) (hQM : Q ≠ M) (hc : w.cell? ⟨Q, 0, none⟩ = some (.int .i64 ((p : Int) + 1))) :
    Calls Try.prog 57 #[.agg #[.int .i64 (a : Int), .int .i64 (b : Int)], .func (Fn.func 58) #[] #[.pointer (some ⟨s, 0, none⟩), .pointer (some ⟨Q, 0, none⟩)]] w (Sought M m s (p + 1) a b w) := by
  have HC := Lib.hid hc
  have hM := hI.known.lt
  have hms := hI.lm
  have hss := hI.ls
  have ha : (a : Int) ≤ 48 := by omega
  have hb48 : (b : Int) ≤ 48 := by omega
  clear hc
  go_enter Try.func57, Try.ntmps57
  go_wp2
  obtain ⟨h, hh⟩ : ∃ h, h = a / 2 := ⟨_, rfl⟩
  rw [show (a : Int) / 2 = (h : Int) from by omega]
  have hha : h ≤ a := by omega
  have hI1 : Inv ((w.alloc (.cells #[.int .i64 (a : Int), .int .i64 (b : Int)] 52)).alloc (.cells #[.int .i64 0, .int .i64 0, .bool false] 65)) M m s := hI.bel (by (repeat (first | exact Bel.refl _ | assumption | refine Bel.drew ?_ | refine Bel.drewN ?_ _ | refine Bel.alloc ?_ _ | refine Bel.setCell ?_ (by first | omega | (simp; done) | (simp; omega) | (simp at *; omega)) _ | refine Bel.trans ?_ (by assumption))))
  have HH := Lib.hid hh
  clear hh
  go_loopw [14] (fun l wr => ∃ k : Nat, k ≤ h + 1 ∧ l = .int .i64 k ∧ Inv wr M m s ∧ Gr M ((w.alloc (.cells #[.int .i64 (a : Int), .int .i64 (b : Int)] 52)).alloc (.cells #[.int .i64 0, .int .i64 0, .bool false] 65)) wr ∧ Tried p a b k) (fun l _ => h + 1 - (intOf l).toNat)
  case atStart => exact ⟨0, Nat.zero_le _, rfl, hI1, Gr.of_bel (Bel.refl _), fun u hu => by omega⟩
  case round =>
    obtain ⟨k, hk, rfl, hIr, hgr, hT⟩ := hrel
    have HT := Lib.hid hT
    have hsz : w.heap.size + 1 < wr.heap.size := by have := hgr.size; simp at this; omega
    clear hT hI1
    by_cases hlt : k < h + 1
    · obtain ⟨x, hx⟩ : ∃ x, x = h - k := ⟨_, rfl⟩
      have hxa : x ≤ a := by omega
      have hkh : (k : Int) < (h : Int) + 1 := by omega
      have ex : (h : Int) - (k : Int) = (x : Int) := by omega
      have hb0 : wr.cell? ⟨w.heap.size, 0, none⟩ = some (.int .i64 (a : Int)) := (hgr.cell (by simp <;> omega) (by omega) 0).trans (by go_simp)
      have hb1 : wr.cell? ⟨w.heap.size, 1, none⟩ = some (.int .i64 (b : Int)) := (hgr.cell (by simp <;> omega) (by omega) 1).trans (by go_simp)
      have HX := Lib.hid hx
      clear hx
      have HEX := Lib.hid ex
      clear ex
      go_wp2
      rw [HEX.out]
      clear hb0 hb1
      obtain ⟨wo, hwo⟩ : ∃ wo : World, wo = wr := ⟨_, rfl⟩
      subst hwo
      go_loopw [23] (fun v wr => ∃ y : Nat, y ≤ b + 1 ∧ v = .int .i64 y ∧ Inv wr M m s ∧ Gr M ((w.alloc (.cells #[.int .i64 (a : Int), .int .i64 (b : Int)] 52)).alloc (.cells #[.int .i64 0, .int .i64 0, .bool false] 65)) wr ∧ Tried2 p a b x y) (fun v _ => b + 1 - (intOf v).toNat)
      case atStart => exact ⟨0, Nat.zero_le _, rfl, hIr, hgr, fun y hy => by omega⟩
      case round =>
        clear hIr hgr hsz
        obtain ⟨y, hy, rfl, hIr, hgr, hT2⟩ := hrel
        have HT2 := Lib.hid hT2
        have hsz : w.heap.size + 1 < wr.heap.size := by have := hgr.size; simp at this; omega
        clear hT2
        by_cases hly : y < b + 1
        · obtain ⟨c, hc⟩ : ∃ c, c = y + (a - x) := ⟨_, rfl⟩
          obtain ⟨d, hd⟩ : ∃ d, d = a - x := ⟨_, rfl⟩
          obtain ⟨f, hf⟩ : ∃ f, f = b - y + x := ⟨_, rfl⟩
          have hyb : y ≤ b := by omega
          have hm1 : x + c ≤ 48 := by omega
          have hm2 : d + f ≤ 48 := by omega
          have hgd : good p a b x y = (en p x c && en p d f) := by unfold good; rw [hc, hd, hf]
          have hyi : (y : Int) < (b : Int) + 1 := by omega
          have Hc := Lib.hid hc; have Hd := Lib.hid hd; have Hf := Lib.hid hf; have HG := Lib.hid hgd
          clear hc hd hf hgd
          have hb0 : wr.cell? ⟨w.heap.size, 0, none⟩ = some (.int .i64 (a : Int)) := (hgr.cell (by simp <;> omega) (by omega) 0).trans (by go_simp)
          have hb1 : wr.cell? ⟨w.heap.size, 1, none⟩ = some (.int .i64 (b : Int)) := (hgr.cell (by simp <;> omega) (by omega) 1).trans (by go_simp)
          have hQ1 : wr.cell? ⟨Q, 0, none⟩ = some (.int .i64 ((p : Int) + 1)) := by
            rw [hgr.cell (by simp <;> omega) hQM 0]
            rw [((((Bel.refl w).alloc _).alloc _).use.1 _ _ hQ)]
            exact HC.out
          have HQ1 := Lib.hid hQ1
          clear hQ1
          go_wp2_with fail
          refine (after_yes' a b x y c _ hm hxa hyb Hc.out).mono ?_
          rintro e w2 ⟨rfl, hb2⟩
          have hw2 : Bel wr w2 := by (repeat (first | exact Bel.refl _ | assumption | refine Bel.drew ?_ | refine Bel.drewN ?_ _ | refine Bel.alloc ?_ _ | refine Bel.setCell ?_ (by first | omega | (simp; done) | (simp; omega) | (simp at *; omega)) _ | refine Bel.trans ?_ (by assumption)))
          have hg2 := hgr.bel hw2
          clear hb0 hb1
          go_wp2_with fail
          refine (isGood_any M m s p hp ih x c Q _ hm1 (hIr.bel hw2) (by have := hw2.size; omega) (by rw [hw2.use.1 _ _ (by omega)]; exact HQ1.out)).mono ?_
          rintro e w3 ⟨rfl, hI3, hg3⟩
          have hg4 := hg2.trans hg3
          have hs3 := hg4.size
          clear hg2 hg3 hb2 hw2 hIr hgr
          cases h1 : en p x c
          · have hgf : good p a b x y = false := by rw [HG.out, h1]; rfl
            have HGF := Lib.hid hgf
            clear hgf h1
            go_wp2
            go_roundw
            case rel => exact ⟨y + 1, by omega, by go_num, hI3, hg4, Tried2.more HT2.out HGF.out⟩
            case measure => simp [intOf]; omega
          · have H1 := Lib.hid h1
            have hb0 : w3.cell? ⟨w.heap.size, 0, none⟩ = some (.int .i64 (a : Int)) := (hg4.cell (by simp <;> omega) (by omega) 0).trans (by go_simp)
            have hb1 : w3.cell? ⟨w.heap.size, 1, none⟩ = some (.int .i64 (b : Int)) := (hg4.cell (by simp <;> omega) (by omega) 1).trans (by go_simp)
            have hQ1 : w3.cell? ⟨Q, 0, none⟩ = some (.int .i64 ((p : Int) + 1)) := by
              rw [hg4.cell (by simp <;> omega) hQM 0]
              rw [((((Bel.refl w).alloc _).alloc _).use.1 _ _ hQ)]
              exact HC.out
            have HQ2 := Lib.hid hQ1
            clear hQ1 h1 hs3
            go_wp2_with fail
            refine (after_no' a b x y d f _ hm hxa hyb Hd.out Hf.out).mono ?_
            rintro e w4 ⟨rfl, hb4⟩
            have hw4 : Bel w3 w4 := by (repeat (first | exact Bel.refl _ | assumption | refine Bel.drew ?_ | refine Bel.drewN ?_ _ | refine Bel.alloc ?_ _ | refine Bel.setCell ?_ (by first | omega | (simp; done) | (simp; omega) | (simp at *; omega)) _ | refine Bel.trans ?_ (by assumption)))
            have hg5 := hg4.bel hw4
            have hs4 : w.heap.size + 1 < w3.heap.size := by have := hg4.size; simp at this; omega
            clear hb0 hb1
            go_wp2_with fail
            refine (isGood_any M m s p hp ih d f Q _ hm2 (hI3.bel hw4) (by have := hw4.size; omega) (by rw [hw4.use.1 _ _ (by omega)]; exact HQ2.out)).mono ?_
            rintro e w5 ⟨rfl, hI5, hg6⟩
            have hg7 := hg5.trans hg6
            clear hg5 hg6 hb4 hw4 hI3 hg4 hs4
            cases h2 : en p d f
            · have hgf : good p a b x y = false := by rw [HG.out, H1.out, h2]; rfl
              have HGF := Lib.hid hgf
              clear hgf h2
              go_wp2
              go_roundw
              case rel => exact ⟨y + 1, by omega, by go_num, hI5, hg7, Tried2.more HT2.out HGF.out⟩
              case measure => simp [intOf]; omega
            · have hgt : good p a b x y = true := by rw [HG.out, H1.out, h2]; rfl
              have HGT := Lib.hid hgt
              have hr0 : w5.cell? ⟨w.heap.size + 1, 0, none⟩ = some (.int .i64 0) := (hg7.cell (by simp <;> omega) (by omega) 0).trans (by go_simp)
              have hr1 : w5.cell? ⟨w.heap.size + 1, 1, none⟩ = some (.int .i64 0) := (hg7.cell (by simp <;> omega) (by omega) 1).trans (by go_simp)
              have hr2 : w5.cell? ⟨w.heap.size + 1, 2, none⟩ = some (.bool false) := (hg7.cell (by simp <;> omega) (by omega) 2).trans (by go_simp)
              have hf0 : ∀ o, w5.frozen? ⟨w.heap.size + 1, o, none⟩ = false := fun o => (hg7.frozen (by simp <;> omega) (by omega) o).trans (by go_simp)
              have hf00 := hf0 0
              have hf01 := hf0 1
              have hf02 := hf0 2
              clear hgt h2 hf0
              go_wp2
              obtain ⟨q0, q1, q2⟩ := stored3 (x := .int .i64 (x : Int)) (y := .int .i64 (y : Int)) (z := .bool true) hr0 hr1 hr2
              refine bodyPost_ret (v := .agg #[.int .i64 (x : Int), .int .i64 (y : Int), .bool true]) (by simp [results, Try.results57, go_sem, q0, q1, q2]) rfl ⟨x, y, true, rfl, ?_, ?_, ?_⟩
              · exact ⟨(en_succ.2 (.inr ⟨x, y, hxa, hyb, HGT.out⟩)).symm, fun _ => ⟨hxa, hyb, by omega, HGT.out⟩, fun h => by cases h⟩
              · exact hI5.below (B := w.heap.size) (below3 _ _ _ _ _) hms hss hM
              · exact (grow2 hg7).far (below3 _ _ _ _ _) (Nat.le_refl _)
        · obtain rfl : y = b + 1 := by omega
          have HTT := Lib.hid (show Tried p a b (k + 1) from fun u hu v hv => by
            rcases (by omega : u < k ∨ u = k) with h' | rfl
            · exact HT.out u h' v hv
            · rw [← HH.out, ← HX.out]; exact HT2.out v (by omega))
          go_wp2
          go_roundw
          case rel => exact ⟨k + 1, by omega, by go_num, hIr, hgr, HTT.out⟩
          case measure => simp [intOf]; omega
    · obtain rfl : k = h + 1 := by omega
      have hE := none_good hn (fun u hu y hy => HT.out u (by have := HH.out; omega) y hy)
      have HE := Lib.hid hE
      have hr0 : wr.cell? ⟨w.heap.size + 1, 0, none⟩ = some (.int .i64 0) := (hgr.cell (by simp <;> omega) (by omega) 0).trans (by go_simp)
      have hr1 : wr.cell? ⟨w.heap.size + 1, 1, none⟩ = some (.int .i64 0) := (hgr.cell (by simp <;> omega) (by omega) 1).trans (by go_simp)
      have hr2 : wr.cell? ⟨w.heap.size + 1, 2, none⟩ = some (.bool false) := (hgr.cell (by simp <;> omega) (by omega) 2).trans (by go_simp)
      have hf0 : ∀ o, wr.frozen? ⟨w.heap.size + 1, o, none⟩ = false := fun o => (hgr.frozen (by simp <;> omega) (by omega) o).trans (by go_simp)
      have hf00 := hf0 0
      have hf01 := hf0 1
      have hf02 := hf0 2
      clear hE hf0
      go_wp2
      obtain ⟨q0, q1, q2⟩ := stored3 (x := .int .i64 0) (y := .int .i64 0) (z := .bool false) hr0 hr1 hr2
      refine bodyPost_ret (v := .agg #[.int .i64 0, .int .i64 0, .bool false]) (by simp [results, Try.results57, go_sem, q0, q1, q2]) rfl ⟨0, 0, false, rfl, ?_, ?_, ?_⟩
      · exact ⟨HE.out.symm, (fun hh => by cases hh), fun _ => ⟨rfl, rfl⟩⟩
      · exact hIr.below (B := w.heap.size) (below3 _ _ _ _ _) hms hss hM
      · exact (grow2 hgr).far (below3 _ _ _ _ _) (Nat.le_refl _)
end Go.Proofs.Ytmklpldmgmjlkaa

