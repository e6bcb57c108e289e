/- What is left of the grains in a pot. -/
import Derived.Test.YtmbhhooiaonhjaaD
import Derived.Deep.RegionHeld3
import Derived.Deep.RegionWith
import Derived.Deep.DeepCutAuto
namespace Go.Proofs.Ytmbhhooiaonhjaa
open Go.RowKit

/-- Of what was there, only two cells of block g, from i on, are written. -/
structure Upd (w w' : World) (g i : Nat) (x y : Value) : Prop where
  grown : w.grownBy w' (some g)
  one : w'.cell? ⟨g, i, none⟩ = some x
  two : w'.cell? ⟨g, i + 1, none⟩ = some y
  other : ∀ j, j ≠ i → j ≠ i + 1 → w'.cell? ⟨g, j, none⟩ = w.cell? ⟨g, j, none⟩
  frozen : ∀ j, w'.frozen? ⟨g, j, none⟩ = w.frozen? ⟨g, j, none⟩
section
variable {w w' : World} {g i : Nat} {x y : Value}
theorem Upd.drew (h : Upd w w' g i x y) : Upd w w'.drew g i x y := ⟨⟨h.grown.os, h.grown.tape, h.grown.output, h.grown.size, h.grown.block⟩, h.one, h.two, h.other, h.frozen⟩
theorem Upd.drewN (h : Upd w w' g i x y) (n : Nat) : Upd w (w'.drewN n) g i x y := ⟨⟨h.grown.os, h.grown.tape, h.grown.output, h.grown.size, h.grown.block⟩, h.one, h.two, h.other, h.frozen⟩
theorem Upd.of_block (h : Upd w w' g i x y) {w2 : World} (hg : g < w.heap.size) (ho : w2.os = w'.os) (ht : w2.tape = w'.tape) (hu : w2.output = w'.output) (hs : w'.heap.size ≤ w2.heap.size) (hb : ∀ k, k < w.heap.size → w2.heap[k]? = w'.heap[k]?) : Upd w w2 g i x y := by
  have hc : ∀ j, w2.cell? ⟨g, j, none⟩ = w'.cell? ⟨g, j, none⟩ := fun j => World.cell?_of_block (w := w') (a := ⟨g, j, none⟩) (hb g hg)
  have hf : ∀ j, w2.frozen? ⟨g, j, none⟩ = w'.frozen? ⟨g, j, none⟩ := fun j => World.frozen?_of_block (w := w') (a := ⟨g, j, none⟩) (hb g hg)
  exact ⟨⟨ho.trans h.grown.os, ht.trans h.grown.tape, hu.trans h.grown.output, Nat.le_trans h.grown.size hs, fun k hk hne => (hb k hk).trans (h.grown.block k hk hne)⟩,
    (hc _).trans h.one, (hc _).trans h.two, fun j h1 h2 => (hc j).trans (h.other j h1 h2), fun j => (hf j).trans (h.frozen j)⟩
theorem Upd.alloc (h : Upd w w' g i x y) (hg : g < w.heap.size) (o : Obj) : Upd w (w'.alloc o) g i x y :=
  h.of_block hg rfl rfl rfl (by simp) fun k hk => Below.heap_alloc _ _ _ (Nat.lt_of_lt_of_le hk h.grown.size)
theorem Upd.setCell (h : Upd w w' g i x y) (hg : g < w.heap.size) {p : Addr} (hp : w.heap.size ≤ p.block) (u : Value) : Upd w (w'.setCell p u) g i x y :=
  h.of_block hg rfl rfl rfl (by simp [World.setCell]) fun k hk => Below.heap_setCell _ _ _ _ (by omega)
theorem Upd.bel (h : Upd w w' g i x y) (hg : g < w.heap.size) {w2 : World} (hb : Bel w' w2) : Upd w w2 g i x y :=
  h.of_block hg hb.os hb.tape hb.output hb.size fun k hk => hb.block k (Nat.lt_of_lt_of_le hk h.grown.size)
theorem Upd.of {w1 : World} (hb : Bel w w1) (hg : g < w.heap.size) {a b : Value} (h1 : w.cell? ⟨g, i, none⟩ = some a) (h2 : w.cell? ⟨g, i + 1, none⟩ = some b) : Upd w ((w1.setCell ⟨g, i, none⟩ x).setCell ⟨g, i + 1, none⟩ y) g i x y := by
  obtain ⟨hc, hf, hz⟩ := hb.use
  have c1 : w1.cell? ⟨g, i, none⟩ = some a := (hc _ _ hg).trans h1
  have c2 : w1.cell? ⟨g, i + 1, none⟩ = some b := (hc _ _ hg).trans h2
  refine ⟨⟨hb.os, hb.tape, hb.output, by simpa [World.setCell] using hz, fun k hk hne => ?_⟩, ?_, ?_, fun j n1 n2 => ?_, fun j => ?_⟩
  · have hne' : k ≠ g := fun e => hne (by rw [e])
    rw [Below.heap_setCell _ _ _ _ hne', Below.heap_setCell _ _ _ _ hne']
    exact hb.block k hk
  · rw [World.cell?_setCell_other _ _ _ _ (by simp), World.cell?_setCell_same _ _ _ c1]
  · exact World.cell?_setCell_same _ _ _ (by rw [World.cell?_setCell_other _ _ _ _ (by simp)]; exact c2)
  · rw [World.cell?_setCell_other _ _ _ _ (by simp <;> omega), World.cell?_setCell_other _ _ _ _ (by simp <;> omega)]
    exact hc _ _ hg
  · simp only [World.frozen?_setCell]
    exact hf _ _ hg
end
set_option maxHeartbeats 3000000 in
theorem sink_any (g i : Nat) (a b c d : Int) (w : World) (hg : g < w.heap.size) (h1 : w.cell? ⟨g, i, none⟩ = some (.int .i64 a)) (h2 : w.cell? ⟨g, i + 1, none⟩ = some (.int .i64 b))
    (f1 : w.frozen? ⟨g, i, none⟩ = false) (f2 : w.frozen? ⟨g, i + 1, none⟩ = false)
    (k1 : 0 ≤ a * c) (k2 : 0 < b * d) (k3 : a * c ≤ 1000000000000000) (k4 : b * d ≤ 1000000000000000) (k5 : 0 ≤ c) (k6 : c ≤ d) (k7 : d ≤ 1000000000000000) (k8 : 0 ≤ a * (d - c)) (k9 : a * (d - c) ≤ 1000000000000000) :
    Calls Try.prog 55 #[.pointer (some ⟨g, i, none⟩), .agg #[.int .i64 c, .int .i64 d]] w fun e w' => e = .returned (.agg #[.int .i64 (num (a * c) (b * d)), .int .i64 (den (a * c) (b * d))]) ∧
      Upd w w' g i (.int .i64 (num (a * (d - c)) (b * d))) (.int .i64 (den (a * (d - c)) (b * d))) := by
  have held : ∀ w', Bel ((w.alloc (.cells #[.int .i64 c, .int .i64 d] 46)).alloc (.cells #[.int .i64 0, .int .i64 0] 46)) w' → w'.cell? ⟨g, i, none⟩ = some (.int .i64 a) ∧ w'.cell? ⟨g, i + 1, none⟩ = some (.int .i64 b) ∧ w'.cell? ⟨w.heap.size, 0, none⟩ = some (.int .i64 c) ∧ w'.cell? ⟨w.heap.size, 1, none⟩ = some (.int .i64 d) := by
    intro w' h
    obtain ⟨hc, -, -⟩ := h.use
    refine ⟨?_, ?_, ?_, ?_⟩ <;> (rw [hc _ _ (by simp <;> omega)]; go_simp)
  have heldf : ∀ w', Bel ((w.alloc (.cells #[.int .i64 c, .int .i64 d] 46)).alloc (.cells #[.int .i64 0, .int .i64 0] 46)) w' → w'.frozen? ⟨g, i, none⟩ = false ∧ w'.frozen? ⟨g, i + 1, none⟩ = false ∧ w'.frozen? ⟨w.heap.size + 1, 0, none⟩ = false ∧ w'.frozen? ⟨w.heap.size + 1, 1, none⟩ = false := by
    intro w' h
    obtain ⟨-, hf, -⟩ := h.use
    refine ⟨?_, ?_, ?_, ?_⟩ <;> (rw [hf _ _ (by simp <;> omega)]; go_simp)
  have Held := Lib.hid held; clear held
  have Heldf := Lib.hid heldf; clear heldf
  go_enter Try.func55, Try.ntmps55
  go_upto_region 1 with fail
  go_cut [5] (fun s5 wx => ∃ q : Nat, s5 = .pointer (some ⟨q, 0, none⟩) ∧ Bel ((w.alloc (.cells #[.int .i64 c, .int .i64 d] 46)).alloc (.cells #[.int .i64 0, .int .i64 0] 46)) wx ∧ w.heap.size + 2 ≤ q ∧ q < wx.heap.size ∧ wx.cell? ⟨q, 0, none⟩ = some (.int .i64 (num (a * c) (b * d))) ∧ wx.cell? ⟨q, 1, none⟩ = some (.int .i64 (den (a * c) (b * d))))
  case first =>
    go_region_held3 (fun w' => Bel ((w.alloc (.cells #[.int .i64 c, .int .i64 d] 46)).alloc (.cells #[.int .i64 0, .int .i64 0] 46)) w' ∧ w'.cell? ⟨g, i, none⟩ = some (.int .i64 a) ∧ w'.cell? ⟨g, i + 1, none⟩ = some (.int .i64 b) ∧ w'.cell? ⟨w.heap.size, 0, none⟩ = some (.int .i64 c) ∧ w'.cell? ⟨w.heap.size, 1, none⟩ = some (.int .i64 d)) (exact ⟨by (repeat (first | exact Bel.refl _ | assumption | refine Bel.drew ?_ | refine Bel.drewN ?_ _ | refine Bel.alloc ?_ _ | refine Bel.setCell ?_ (by first | omega | (simp; done) | (simp; omega) | (simp at *; omega)) _ | refine Bel.trans ?_ (by assumption))), Held.out _ (by (repeat (first | exact Bel.refl _ | assumption | refine Bel.drew ?_ | refine Bel.drewN ?_ _ | refine Bel.alloc ?_ _ | refine Bel.setCell ?_ (by first | omega | (simp; done) | (simp; omega) | (simp at *; omega)) _ | refine Bel.trans ?_ (by assumption))))⟩)
      (first | (go_at_call 60; refine (product_any _ _ _ _ _ (by omega) (by omega) (by omega) (by omega)).mono ?_; rintro e w1 ⟨rfl, hb⟩; obtain ⟨hc, hf, hz⟩ := hb.use; simp at hz))
    all_goals go_wp2_with fail
    all_goals go_meet
    · exact ⟨w1.heap.size, rfl, by (repeat (first | exact Bel.refl _ | assumption | refine Bel.drew ?_ | refine Bel.drewN ?_ _ | refine Bel.alloc ?_ _ | refine Bel.setCell ?_ (by first | omega | (simp; done) | (simp; omega) | (simp at *; omega)) _ | refine Bel.trans ?_ (by assumption))), by omega, by simp, by go_simp, by go_simp⟩
    · exact ⟨w.heap.size + 1 + 1, rfl, by (repeat (first | exact Bel.refl _ | assumption | refine Bel.drew ?_ | refine Bel.drewN ?_ _ | refine Bel.alloc ?_ _ | refine Bel.setCell ?_ (by first | omega | (simp; done) | (simp; omega) | (simp at *; omega)) _ | refine Bel.trans ?_ (by assumption))), by omega, by simp; omega, by simp [hc, go_sem], by simp [hc, go_sem]⟩
  case rest =>
    obtain ⟨q, rfl, hb0, hq1, hq2, hq3, hq4⟩ := hcut
    have heldc : ∀ w', Bel wc w' → (w'.cell? ⟨g, i, none⟩ = some (.int .i64 a) ∧ w'.cell? ⟨g, i + 1, none⟩ = some (.int .i64 b) ∧ w'.cell? ⟨w.heap.size, 0, none⟩ = some (.int .i64 c) ∧ w'.cell? ⟨w.heap.size, 1, none⟩ = some (.int .i64 d)) ∧ (w'.frozen? ⟨g, i, none⟩ = false ∧ w'.frozen? ⟨g, i + 1, none⟩ = false ∧ w'.frozen? ⟨w.heap.size + 1, 0, none⟩ = false ∧ w'.frozen? ⟨w.heap.size + 1, 1, none⟩ = false) ∧ w'.cell? ⟨q, 0, none⟩ = some (.int .i64 (num (a * c) (b * d))) ∧ w'.cell? ⟨q, 1, none⟩ = some (.int .i64 (den (a * c) (b * d))) ∧ w'.cell? ⟨w.heap.size + 1, 0, none⟩ = some (.int .i64 0) ∧ w'.cell? ⟨w.heap.size + 1, 1, none⟩ = some (.int .i64 0) := by
      intro w' h
      have h0 := hb0.trans h
      refine ⟨Held.out _ h0, Heldf.out _ h0, (h.use.1 _ _ hq2).trans hq3, (h.use.1 _ _ hq2).trans hq4, ?_, ?_⟩ <;> (rw [h0.use.1 _ _ (by simp)]; go_simp)
    obtain ⟨⟨p1, p2, p3, p4⟩, ⟨r1, r2, r3, r4⟩, t1, t2, t3, t4⟩ := heldc wc (Bel.refl _)
    have Heldc := Lib.hid heldc; clear heldc
    clear hq3 hq4
    go_upto_region 2 with fail
    go_region_with (first | (go_at_call 60; refine (product_any _ _ _ _ _ (by omega) (by omega) (by omega) (by omega)).mono ?_; rintro e w1 ⟨rfl, hb⟩; obtain ⟨-, -, hz⟩ := hb.use; (try simp at hz); obtain ⟨⟨p1, p2, p3, p4⟩, ⟨r1, r2, r3, r4⟩, t1, t2, t3, t4⟩ := Heldc.out w1 (by (repeat (first | exact Bel.refl _ | assumption | refine Bel.drew ?_ | refine Bel.drewN ?_ _ | refine Bel.alloc ?_ _ | refine Bel.setCell ?_ (by first | omega | (simp; done) | (simp; omega) | (simp at *; omega)) _ | refine Bel.trans ?_ (by assumption))))) | (go_at_call 61; refine (oneMinus_any _ _ _ (by omega) (by omega) (by omega)).mono ?_; rintro e w2 ⟨rfl, hb2⟩; obtain ⟨-, -, hz2⟩ := hb2.use; (try simp at hz2); obtain ⟨⟨p1, p2, p3, p4⟩, ⟨r1, r2, r3, r4⟩, t1, t2, t3, t4⟩ := Heldc.out w2 (by (repeat (first | exact Bel.refl _ | assumption | refine Bel.drew ?_ | refine Bel.drewN ?_ _ | refine Bel.alloc ?_ _ | refine Bel.setCell ?_ (by first | omega | (simp; done) | (simp; omega) | (simp at *; omega)) _ | refine Bel.trans ?_ (by assumption))))))
    all_goals
      have hqg : q ≠ g := by omega
      have hqg2 : q ≠ w.heap.size + 1 := by omega
      have hqg3 : w.heap.size + 1 ≠ g := by omega
      go_wp2
      exact bodyPost_ret (v := .agg #[.int .i64 (num (a * c) (b * d)), .int .i64 (den (a * c) (b * d))]) (by simp [results, Try.results55, go_sem, t3, t4]) rfl ⟨rfl, by (repeat (first | exact Upd.of (by (repeat (first | exact Bel.refl _ | assumption | refine Bel.drew ?_ | refine Bel.drewN ?_ _ | refine Bel.alloc ?_ _ | refine Bel.setCell ?_ (by first | omega | (simp; done) | (simp; omega) | (simp at *; omega)) _ | refine Bel.trans ?_ (by assumption)))) (by assumption) (by assumption) (by assumption) | refine Upd.drew ?_ | refine Upd.drewN ?_ _ | refine Upd.alloc ?_ (by assumption) _ | refine Upd.setCell ?_ (by assumption) (by first | omega | (simp; done) | (simp; omega) | (simp at *; omega)) _))⟩
end Go.Proofs.Ytmbhhooiaonhjaa

