/- before; the program's Unfold. -/
import Derived.Test.YthjjpmcefiddmaaN
namespace Go.Proofs.Ythjjpmcefiddmaa
open Go.RowKit

attribute [local go_sem] Oper.semAt_some

theorem KeepsOthers.of_bel {W W' : World} (h : Bel W W') : KeepsOthers W W' :=
  ⟨h.size, fun k _ hk _ => (h.block k (Array.getElem?_eq_some_iff.1 hk).1).trans hk⟩
theorem unfold0 (v : Value) (w : World) : Calls Try.prog 107 #[v, .int .i64 0] w fun e w' => e = .returned (.func (Fn.func 86) #[v] #[]) ∧ w = w' := unfold_any v 0 (by omega) w
theorem unfold1 (v : Value) (w : World) : Calls Try.prog 107 #[v, .int .i64 1] w fun e w' => e = .returned (.func (Fn.func 87) #[v] #[]) ∧ w = w' := unfold_any v 1 (by omega) w
/-- While the folds are undone: the box holds the batch. -/
structure BefI (h : Nat) (f : Nat → Int) (w : World) (pre : List (Nat × Bool)) (W : World) : Prop where
  bel : Bel w W
  box : ∃ v, W.cell? ⟨w.heap.size, 0, none⟩ = some v ∧ Batch h (fun q => f (goL h pre q)) W v
  fz : W.frozen? ⟨w.heap.size, 0, none⟩ = false
  lt : w.heap.size + 2 ≤ W.heap.size
theorem Seg.own {w w' : World} {b o m : Nat} {f : Nat → Int} {row : Option Nat} (hS : Seg w b o m f) (hg : w.grownBy w' row) (hr : ∀ r, row = some r → ∃ o : Obj, w.heap[r]? = some o ∧ o.isCells = false) : Seg w' b o m f :=
  ⟨Nat.lt_of_lt_of_le hS.lt hg.size, fun i hi => cell_kept (hS.cells i hi) hg hr⟩
theorem befI_own (h : Nat) (f : Nat → Int) (w : World) {B : Nat} (hB : w.heap.size < B) : OwnFrom B (BefI h f w) := fun s W W' row hs hg hr => by
  obtain ⟨v, h1, b, o, c, rfl, hc, hS⟩ := hs.box
  have hr2 : ∀ r, row = some r → ∃ o : Obj, W.heap[r]? = some o ∧ o.isCells = false := fun r e => (hr r e).2
  exact ⟨Below.grown hs.bel hg hs.bel.size (fun k e => by have := (hr k e).1; omega), ⟨_, cell_kept h1 hg hr2, b, o, c, rfl, hc, hS.own hg hr2⟩, (frozen_kept h1 hg hr2).trans hs.fz, Nat.le_trans hs.lt hg.size⟩
set_option maxRecDepth 100000 in
set_option maxHeartbeats 4000000 in
theorem before_any (h : Nat) (v0 : Value) (A : Option Addr) (n c : Nat) (ws : List Int) (f : Nat → Int) (w : World) (hB : Batch h f w v0) (h1 : 1 ≤ h) (h16 : h ≤ 16) (hR : Ints w A ws) (hn : ws.length = n) (hm : n ≤ 100) (hW : WordOK ws) :
    Calls Try.prog 90 #[v0, .slice A n c] w fun e w' => ∃ v', e = .returned v' ∧ Bel w w' ∧ Batch h (fun q => f (goW h ws q)) w' v' := by
  have Hn := Lib.hid hn; have HW := Lib.hid hW
  clear hn hW
  obtain ⟨b, o, c0, rfl, hc0, hS⟩ := hB
  refine (callsIn_wide (n := 5)).1 ?_
  refine callsIn_of_wp_marks Try.func90 rfl trivial ?_ rfl
  simp only [Try.ntmps90, List.size_toArray, List.length_cons, List.length_nil, Nat.reduceAdd, Nat.reduceSub, Array.replicate_succ, Array.replicate_zero, List.push_toArray, List.append_toArray, List.nil_append, List.cons_append]
  gi_wp2_with (first | (gi_at_call 106; refine (callsIn_wide.2 (backward_in A n c _)).mono ?_; rintro e w2 ⟨rfl, hw2⟩) | (refine ⟨trivial, ?_⟩; gi_at_call 106; refine (callsIn_wide.2 (backward_in A n c _)).mono ?_; rintro e w2 ⟨rfl, hw2⟩) | fail)
  clear hw2 w2
  have hB0 : Bel w ((w.alloc (.cells #[.slice (some ⟨b, o, none⟩) (2 * h) c0] 52)).alloc (.cells #[.slice A n c] 22)) := by (repeat (first | exact Bel.refl _ | assumption | refine Bel.drew ?_ | refine Bel.drewN ?_ _ | refine Bel.alloc ?_ _ | refine Bel.setCell ?_ (by first | omega | (simp; done) | (simp; omega) | (simp at *; omega)) _ | refine Bel.trans ?_ (by assumption)))
  have hsz0 : ((w.alloc (.cells #[.slice (some ⟨b, o, none⟩) (2 * h) c0] 52)).alloc (.cells #[.slice A n c] 22)).heap.size = w.heap.size + 2 := by simp
  have c2 : ((w.alloc (.cells #[.slice (some ⟨b, o, none⟩) (2 * h) c0] 52)).alloc (.cells #[.slice A n c] 22)).cell? ⟨w.heap.size, 0, none⟩ = some (.slice (some ⟨b, o, none⟩) (2 * h) c0) := by go_simp
  have z2 : ((w.alloc (.cells #[.slice (some ⟨b, o, none⟩) (2 * h) c0] 52)).alloc (.cells #[.slice A n c] 22)).frozen? ⟨w.heap.size, 0, none⟩ = false := by go_simp
  have c3 : ((w.alloc (.cells #[.slice (some ⟨b, o, none⟩) (2 * h) c0] 52)).alloc (.cells #[.slice A n c] 22)).cell? ⟨w.heap.size + 1, 0, none⟩ = some (.slice A n c) := by go_simp
  obtain ⟨W0, hW0⟩ : ∃ W0, (w.alloc (.cells #[.slice (some ⟨b, o, none⟩) (2 * h) c0] 52)).alloc (.cells #[.slice A n c] 22) = W0 := ⟨_, rfl⟩
  rw [hW0] at hB0 hsz0 c2 z2 c3 ⊢
  clear hW0
  have hI0 : IntsS (fun x => x < W0.heap.size ∧ x ≠ w.heap.size) W0 A ws := by
    rcases hR with h | ⟨b', o', rfl, hl, hc⟩
    · exact .inl h
    · exact .inr ⟨b', o', rfl, ⟨by omega, by omega⟩, fun j v hj => (hB0.use.1 _ _ hl).trans (hc j v hj)⟩
  refine wpIn_rangeFunc_ownF rfl (by omega) (gf := 120) (lb := #[.pointer (some ⟨w.heap.size + 1, 0, none⟩)]) rfl trivial (enters_of Try.func120 (by kernel_rfl) rfl)
    (backward_stops 3 (w.heap.size + 1) (fun x => x < W0.heap.size ∧ x ≠ w.heap.size) A n c ws W0 Hn.out hm HW.out ⟨by omega, by omega⟩ (fun x h => h.1) c3 hI0)
    (fun h k => h.trans k) (Kept.put (fun x h => h.1)) (Below.refl _ _) (fun _ => rfl)
    (BefI h f w) (fun _ _ _ => False) (befI_own h f w (by omega)) (fun _ _ _ _ _ hs _ _ => hs)
    ⟨hB0, ⟨_, c2, b, o, c0, rfl, hc0, hS.bel hB0⟩, z2, by omega⟩
    (fun x => { tmps := #[.slice (some ⟨b, o, none⟩) (2 * h) c0, .slice A n c, .pointer (some ⟨w.heap.size, 0, none⟩), undef, .slice none 0 0, undef, .int .i64 ((kd x.2 : Nat) : Int), .slice A n c, .func (.func 120) #[] #[.pointer (some ⟨w.heap.size + 1, 0, none⟩)], .int .i64 (x.1 : Int), .int .i64 ((kd x.2 : Nat) : Int), undef, undef, undef, undef, undef], defers := [] }) ?assign ?body ?done ?stop
  case assign =>
    intro l x W K hK
    gi_wp2
    simpa [enc2] using hK
  case body =>
    rintro l pre ⟨i, bb⟩ W ⟨hbW, ⟨v, cv, b1, o1, c1, rfl, hc1, hS1⟩, hfz, hlt⟩ hlen
    cases bb
    · rw [show kd false = 0 from rfl]
      gi_wp2_with (first | (refine ⟨trivial, ?_⟩; gi_at_call 107; refine (CallsIn.inRound l (callsIn_wide.2 (unfold0 _ _))).mono ?_; rintro e w2 ⟨rfl, rfl⟩) | fail)
      refine ⟨trivial, (CallsIn.inRound l (callsIn_wide.2 (unOut_any b1 o1 h c1 _ W hS1 h1 h16))).mono ?_⟩
      rintro e w3 ⟨g, rfl, hg, hb3, hr3⟩
      have hlt0 : w.heap.size < W.heap.size := by omega
      have cv3 : w3.cell? ⟨w.heap.size, 0, none⟩ = some (.slice (some ⟨b1, o1, none⟩) (2 * h) c1) := by rw [hb3.use.1 _ _ hlt0]; exact cv
      have hfz3 : w3.frozen? ⟨w.heap.size, 0, none⟩ = false := by rw [hb3.use.2.1 _ _ hlt0]; exact hfz
      have hlt3 := Nat.le_trans hlt hb3.size
      gi_wp2
      refine ⟨(KeepsOthers.of_bel hb3).trans (KeepsOthers.setCell _ _ _), fun k hk => ?_, (hbW.trans hb3).setCell (Nat.le_refl _) _, ?_, ?_, ?_⟩
      · rw [Below.heap_setCell _ _ _ _ (fun e => hk.2 (by first | exact e | exact e.symm))]
        exact hb3.block k (by have := hk.1; omega)
      · exact ⟨_, World.cell?_setCell_same _ _ _ cv3, g, 0, 2 * h, rfl, Nat.le_refl _, (Seg.of_row (hr3.far (p := ⟨w.heap.size, 0, none⟩) (show g ≠ w.heap.size by omega) _)).congr fun q _ => by rw [goL_snoc]; rfl⟩
      · rw [World.frozen?_setCell]
        exact hfz3
      · simpa [World.setCell] using hlt3
    · rw [show kd true = 1 from rfl]
      gi_wp2_with (first | (refine ⟨trivial, ?_⟩; gi_at_call 107; refine (CallsIn.inRound l (callsIn_wide.2 (unfold1 _ _))).mono ?_; rintro e w2 ⟨rfl, rfl⟩) | fail)
      refine ⟨trivial, (CallsIn.inRound l (callsIn_wide.2 (unIn_any b1 o1 h c1 _ W hS1 h1 h16))).mono ?_⟩
      rintro e w3 ⟨g, rfl, hg, hb3, hr3⟩
      have hlt0 : w.heap.size < W.heap.size := by omega
      have cv3 : w3.cell? ⟨w.heap.size, 0, none⟩ = some (.slice (some ⟨b1, o1, none⟩) (2 * h) c1) := by rw [hb3.use.1 _ _ hlt0]; exact cv
      have hfz3 : w3.frozen? ⟨w.heap.size, 0, none⟩ = false := by rw [hb3.use.2.1 _ _ hlt0]; exact hfz
      have hlt3 := Nat.le_trans hlt hb3.size
      gi_wp2
      refine ⟨(KeepsOthers.of_bel hb3).trans (KeepsOthers.setCell _ _ _), fun k hk => ?_, (hbW.trans hb3).setCell (Nat.le_refl _) _, ?_, ?_, ?_⟩
      · rw [Below.heap_setCell _ _ _ _ (fun e => hk.2 (by first | exact e | exact e.symm))]
        exact hb3.block k (by have := hk.1; omega)
      · exact ⟨_, World.cell?_setCell_same _ _ _ cv3, g, 0, 2 * h, rfl, Nat.le_refl _, (Seg.of_row (hr3.far (p := ⟨w.heap.size, 0, none⟩) (show g ≠ w.heap.size by omega) _)).congr fun q _ => by rw [goL_snoc]; rfl⟩
      · rw [World.frozen?_setCell]
        exact hfz3
      · simpa [World.setCell] using hlt3
  case done =>
    rintro D ys W hD rfl ⟨hbW, ⟨v, cv, hO⟩, hfz, hlt⟩ hK
    have hg := grownBy_putObj' W D (.deferred none)
    have hr : ∀ r, some D = some r → ∃ o : Obj, W.heap[r]? = some o ∧ o.isCells = false := fun r e => by cases e; exact ⟨_, hK, rfl⟩
    gi_wp2
    refine ⟨by simp, .inl ⟨D, _, rfl, run_takeDeferred hK, ?_⟩⟩
    obtain ⟨b1, o1, c1, rfl, hc1, hS1⟩ := hO
    refine ⟨_, by simp [results, Try.f90, go_sem], _, rfl, Below.grown hbW hg hbW.size (fun k e => by cases e; omega), ⟨b1, o1, c1, rfl, hc1, (hS1.own hg hr).congr fun q _ => by rw [goL_all h 0 ws q HW.out]⟩⟩
  case stop =>
    intro D c' pre W hD hSp hF
    exact absurd hF id
set_option maxRecDepth 100000 in
set_option maxHeartbeats 1000000 in
theorem unfold_ok (h : Nat) (D : Option Addr) (d : Nat) (l : List Int) (A : Option Addr) (n c : Nat) (ws : List Int) (w : World) (hD : Ints w D l) (hl : l.length = 2 * h) (hR : Ints w A ws) (hn : ws.length = n) (hE : eDW (2 * h : Nat) ws = 0) :
    Calls Try.prog 51 #[.slice D (2 * h) d, .slice A n c] w (FoldV h (goW h ws) l w) := by
  obtain ⟨hE1, hE2⟩ := eDW_zero hE
  obtain ⟨k, h1, h2, h3⟩ := eD_zero hE1
  obtain rfl : k = h := by omega
  obtain ⟨hw1, hw2⟩ := eW_zero hE2
  have hmx : n ≤ maxLen := by unfold maxLen; omega
  have hm100 : n ≤ 100 := by omega
  have HE := Lib.hid hE; have Hn := Lib.hid hn; have Hl := Lib.hid hl
  clear hE hE1 hE2 h3 hn hl hw1
  go_enter Try.func51, Try.ntmps51
  go_wp2_with fail
  refine (validateDW_any D (2 * k) d A n c ws _ hR Hn.out hmx).mono ?_
  rintro e w1 ⟨rfl, rfl⟩
  rw [HE.out]
  go_wp2_with fail
  refine (clone_any D (2 * k) d l _ hD Hl.out (by omega) (by omega)).mono ?_
  rintro e w1 ⟨g, cap, rfl, hcap, hb1, hI1⟩
  go_wp2_with fail
  refine (before_any k _ A n c ws _ _ (Batch.of_ints hI1 Hl.out h1 hcap) h1 h2 (hR.bel hb1) Hn.out hm100 hw2).mono ?_
  rintro e w2 ⟨v, rfl, hb2, hB⟩
  obtain ⟨A2, c2, rfl, hc2, hI2⟩ := hB.ints
  go_wp2
  exact bodyPost_ret (v := .tuple #[.slice A2 (2 * k) c2, .int .i64 0]) (by simp [results, Try.results51, go_sem]) rfl ⟨A2, c2, rfl, hc2, hb1.trans hb2, hI2⟩
set_option maxRecDepth 100000 in
set_option maxHeartbeats 1000000 in
theorem unfold_err (D : Option Addr) (m d : Nat) (A : Option Addr) (n c : Nat) (ws : List Int) (w : World) (hR : Ints w A ws) (hn : ws.length = n) (hmx : n ≤ maxLen) (hE : eDW m ws ≠ 0) :
    Calls Try.prog 51 #[.slice D m d, .slice A n c] w (NilE (eDW m ws) w) := by
  obtain ⟨x, hx⟩ : ∃ x, x = eDW m ws := ⟨_, rfl⟩
  have HX := Lib.hid hx
  have hx0 : (x != 0) = true := by rw [hx]; simpa using hE
  rw [← hx]
  clear hE hx
  go_enter Try.func51, Try.ntmps51
  go_wp2_with fail
  refine (validateDW_any D m d A n c ws _ hR hn hmx).mono ?_
  rintro e w1 ⟨rfl, rfl⟩
  rw [← HX.out]
  go_wp2
  exact bodyPost_ret (v := .tuple #[.slice none 0 0, .int .i64 x]) (by simp [results, Try.results51, go_sem]) rfl ⟨rfl, Bel.refl _⟩
end Go.Proofs.Ythjjpmcefiddmaa
