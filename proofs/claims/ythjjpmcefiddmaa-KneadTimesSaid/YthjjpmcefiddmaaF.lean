/- The program's batches: numbered, halves, laid, part, and the folds. -/
import Derived.Test.YthjjpmcefiddmaaC
namespace Go.Proofs.Ythjjpmcefiddmaa
open Go.RowKit

theorem hmf (fn : Fn) (first cap : Array Value) (w : World) : (Instr.makeFunc fn first cap).run Try.prog w = .ok (.func fn first cap) w := rfl
/-- From the place o of block b on, the numbers f stand in h cells. -/
structure Seg (w : World) (b o h : Nat) (f : Nat → Int) : Prop where
  lt : b < w.heap.size
  cells : ∀ i, i < h → w.cell? ⟨b, o + i, none⟩ = some (.int .i64 (f i))
theorem Seg.bel {w w' : World} {b o h : Nat} {f : Nat → Int} (hs : Seg w b o h f) (hb : Bel w w') : Seg w' b o h f :=
  ⟨Nat.lt_of_lt_of_le hs.lt hb.use.2.2, fun i hi => by rw [hb.use.1 _ _ hs.lt]; exact hs.cells i hi⟩
theorem Seg.of_ints {w : World} {A : Option Addr} {l : List Int} (h : Ints w A l) (hp : 0 < l.length) : ∃ b o, A = some ⟨b, o, none⟩ ∧ Seg w b o l.length (fun i => l.getD i 0) := by
  rcases h with rfl | ⟨b, o, rfl, hl, hc⟩
  · simp at hp
  · refine ⟨b, o, rfl, hl, fun i hi => hc i _ ?_⟩
    rw [List.getD_eq_getElem?_getD, List.getElem?_eq_getElem hi]
    rfl
theorem Seg.of_row {w : World} {g m : Nat} {f : Nat → Int} (h : Row w g m m f) : Seg w g 0 m f := ⟨h.lt, fun i hi => by rw [Nat.zero_add]; exact h.cells i hi⟩
theorem Seg.left {w : World} {b o h : Nat} {f : Nat → Int} (hs : Seg w b o (2 * h) f) : Seg w b o h f := ⟨hs.lt, fun i hi => hs.cells i (by omega)⟩
theorem Seg.right {w : World} {b o h : Nat} {f : Nat → Int} (hs : Seg w b o (2 * h) f) : Seg w b (o + h) h (fun i => f (h + i)) := ⟨hs.lt, fun i hi => by rw [Nat.add_assoc]; exact hs.cells (h + i) (by omega)⟩
theorem make_batch (n : Nat) (h : n ≤ 40) (W : World) : (Instr.makeSlice 52 (.int .i64 (n : Int)) (.int .i64 (n : Int))).run Try.prog W = .ok (.slice (some ⟨W.heap.size, 0, none⟩) n n) (W.alloc (.cells (madeCells #[.int .i64 0] n) 3)) :=
  run_make_row' 52 3 (.int .i64 0) 8 Try.underlying52 infoInt rfl .i64 .i64 n (by first | omega | (unfold maxLen; omega)) (by first | omega | (unfold maxLen; omega)) W
theorem make_two (h : Nat) (h16 : h ≤ 16) (W : World) : (Instr.makeSlice 52 (.int .i64 (2 * (h : Int))) (.int .i64 (2 * (h : Int)))).run Try.prog W = .ok (.slice (some ⟨W.heap.size, 0, none⟩) (2 * h) (2 * h)) (W.alloc (.cells (madeCells #[.int .i64 0] (2 * h)) 3)) := by
  have := make_batch (2 * h) (by omega) W
  rwa [Int.natCast_mul] at this
theorem row_made (w : World) (n : Nat) (f : Nat → Int) : Row (w.alloc (.cells (madeCells #[.int .i64 0] n) 3)) w.heap.size n 0 f :=
  Row.new _ _ _ _ fun i hi => ⟨_, made_int n i hi⟩
/-- A new batch of n lumps. -/
def Made (n : Nat) (f : Nat → Int) (w : World) (e : Ending) (w' : World) : Prop := ∃ g, e = .returned (.slice (some ⟨g, 0, none⟩) n n) ∧ w.heap.size ≤ g ∧ Bel w w' ∧ Row w' g n n f

set_option maxRecDepth 100000 in
set_option maxHeartbeats 1000000 in
theorem numbered_any (n : Nat) (w : World) (hn : n ≤ 32) : Calls Try.prog 56 #[.int .i64 (n : Int)] w (Made n (fun i => (i : Int)) w) := by
  have hmk := make_batch n (by omega)
  have hrow0 := row_made w n (fun i => (i : Int))
  go_enter Try.func56, Try.ntmps56
  go_wp2
  go_loopw [4, 9] (fun _ i wr => ∃ k : Nat, k ≤ n ∧ i = .int .i64 k ∧ Bel w wr ∧ Row wr w.heap.size n k (fun i => (i : Int))) (fun _ i _ => n - (intOf i).toNat)
  case atStart => exact ⟨0, Nat.zero_le _, rfl, by (repeat (first | exact Bel.refl _ | assumption | refine Bel.drew ?_ | refine Bel.drewN ?_ _ | refine Bel.alloc ?_ _ | refine Bel.setCell ?_ (by first | omega | (simp; done) | (simp; omega) | (simp at *; omega)) _ | refine Bel.trans ?_ (by assumption))), hrow0⟩
  case round =>
    clear hmk hrow0
    obtain ⟨k, hk, rfl, hb, hrow⟩ := hrel
    by_cases hlt : k < n
    · have hki : (k : Int) < (n : Int) := by omega
      obtain ⟨v, hv⟩ := hrow.all k hlt
      have hfz := hrow.fz k
      have hgl := hrow.lt
      go_wp2
      go_roundw
      case rel => exact ⟨k + 1, by omega, by go_num, by (repeat (first | exact Bel.refl _ | assumption | refine Bel.drew ?_ | refine Bel.drewN ?_ _ | refine Bel.alloc ?_ _ | refine Bel.setCell ?_ (by first | omega | (simp; done) | (simp; omega) | (simp at *; omega)) _ | refine Bel.trans ?_ (by assumption))), by first | exact hrow.set_ rfl hlt rfl | exact (hrow.set_ rfl hlt rfl).drew⟩
      case measure => simp [intOf]; omega
    · obtain rfl : k = n := by omega
      go_wp2
      go_ret
      exact ⟨_, rfl, Nat.le_refl _, hb, hrow⟩
set_option maxRecDepth 100000 in
set_option maxHeartbeats 1000000 in
theorem halves_any (b o h c : Nat) (w : World) (h1 : 1 ≤ h) (h16 : h ≤ 16) (hc : 2 * h ≤ c) :
    Calls Try.prog 103 #[.slice (some ⟨b, o, none⟩) (2 * h) c] w fun e w' => e = .returned (.tuple #[.slice (some ⟨b, o, none⟩) h h, .slice (some ⟨b, o + h, none⟩) h h]) ∧ Bel w w' := by
  have hq : Int.tdiv ((2 * h : Nat) : Int) 2 = (h : Int) := by rw [Int.tdiv_eq_ediv_of_nonneg (by omega)]; omega
  go_enter Try.func103, Try.ntmps103
  go_wp2
  go_region
  go_wp2
  exact bodyPost_ret (v := .tuple #[.slice (some ⟨b, o, none⟩) h h, .slice (some ⟨b, o + h, none⟩) h h]) (by simp [results, Try.results103, go_sem, show 2 * h - h = h from by omega]) rfl ⟨rfl, by (repeat (first | exact Bel.refl _ | assumption | refine Bel.drew ?_ | refine Bel.drewN ?_ _ | refine Bel.alloc ?_ _ | refine Bel.setCell ?_ (by first | omega | (simp; done) | (simp; omega) | (simp at *; omega)) _ | refine Bel.trans ?_ (by assumption)))⟩
/-- Two halves laid into each other. -/
def laidF (e d : Nat → Int) (q : Nat) : Int := if q % 2 = 0 then e (q / 2) else d (q / 2)
theorem laidF_even (e d : Nat → Int) (k : Nat) : laidF e d (2 * k) = e k := by unfold laidF; rw [if_pos (by omega), show 2 * k / 2 = k from by omega]
theorem laidF_odd (e d : Nat → Int) (k : Nat) : laidF e d (2 * k + 1) = d k := by unfold laidF; rw [if_neg (by omega), show (2 * k + 1) / 2 = k from by omega]
set_option maxRecDepth 100000 in
set_option maxHeartbeats 1000000 in
theorem laid_any (b1 o1 b2 o2 h : Nat) (e d : Nat → Int) (w : World) (hE : Seg w b1 o1 h e) (hD : Seg w b2 o2 h d) (h1 : 1 ≤ h) (h16 : h ≤ 16) :
    Calls Try.prog 104 #[.slice (some ⟨b1, o1, none⟩) h h, .slice (some ⟨b2, o2, none⟩) h h] w (Made (2 * h) (laidF e d) w) := by
  have hmk := make_two h h16
  have hrow0 := row_made w (2 * h) (laidF e d)
  go_enter Try.func104, Try.ntmps104
  go_wp2
  go_loopw [6, 13] (fun _ i wr => ∃ k : Nat, k ≤ h ∧ i = .int .i64 k ∧ Bel w wr ∧ Row wr w.heap.size (2 * h) (2 * k) (laidF e d)) (fun _ i _ => h - (intOf i).toNat)
  case atStart => exact ⟨0, Nat.zero_le _, rfl, by (repeat (first | exact Bel.refl _ | assumption | refine Bel.drew ?_ | refine Bel.drewN ?_ _ | refine Bel.alloc ?_ _ | refine Bel.setCell ?_ (by first | omega | (simp; done) | (simp; omega) | (simp at *; omega)) _ | refine Bel.trans ?_ (by assumption))), hrow0⟩
  case round =>
    clear hmk hrow0
    obtain ⟨k, hk, rfl, hb, hrow⟩ := hrel
    by_cases hlt : k < h
    · have hki : (k : Int) < (h : Int) := by omega
      obtain ⟨v1, hv1⟩ := hrow.all (2 * k) (by omega)
      obtain ⟨v2, hv2⟩ := hrow.all (2 * k + 1) (by omega)
      have hf1 := hrow.fz (2 * k)
      have hf2 := hrow.fz (2 * k + 1)
      have hgl := hrow.lt
      have c1 := (hE.bel hb).cells k hlt
      have c2 := (hD.bel hb).cells k hlt
      have n1 := hE.lt
      have n2 := hD.lt
      go_wp2
      go_region
      go_wp2
      go_roundw
      case rel => exact ⟨k + 1, by omega, by go_num, by (repeat (first | exact Bel.refl _ | assumption | refine Bel.drew ?_ | refine Bel.drewN ?_ _ | refine Bel.alloc ?_ _ | refine Bel.setCell ?_ (by first | omega | (simp; done) | (simp; omega) | (simp at *; omega)) _ | refine Bel.trans ?_ (by assumption))), by first | exact (hrow.set_ (x := e k) rfl (by omega) (laidF_even e d k).symm).set_ (x := d k) rfl (by omega) (laidF_odd e d k).symm | exact ((hrow.set_ (x := e k) rfl (by omega) (laidF_even e d k).symm).set_ (x := d k) rfl (by omega) (laidF_odd e d k).symm).drew | exact ((hrow.drew.set_ (x := e k) rfl (by omega) (laidF_even e d k).symm).set_ (x := d k) rfl (by omega) (laidF_odd e d k).symm)⟩
      case measure => simp [intOf]; omega
    · obtain rfl : k = h := by omega
      go_wp2
      go_ret
      exact ⟨_, rfl, Nat.le_refl _, hb, hrow⟩
theorem Made.congr {n : Nat} {f f' : Nat → Int} {w w' : World} {e : Ending} (h : Made n f w e w') (hf : ∀ i, i < n → f' i = f i) : Made n f' w e w' := by
  obtain ⟨g, rfl, hg, hb, hr⟩ := h
  exact ⟨g, rfl, hg, hb, hr.congr hf⟩
theorem laid_out {h : Nat} (f : Nat → Int) (q : Nat) : f (unN h 0 q) = laidF f (fun i => f (h + i)) q := by unfold laidF unN; split <;> rfl
theorem laid_in {h : Nat} (f : Nat → Int) (q : Nat) : f (unN h 1 q) = laidF (fun i => f (h + i)) f q := by
  unfold laidF unN
  by_cases h0 : q % 2 = 0
  · rw [if_pos h0, if_neg (by omega)]
  · rw [if_neg h0, if_pos (by omega)]
set_option maxRecDepth 100000 in
set_option maxHeartbeats 1000000 in
theorem out_any (b o h c : Nat) (f : Nat → Int) (w : World) (hS : Seg w b o (2 * h) f) (h1 : 1 ≤ h) (h16 : h ≤ 16) (hc : 2 * h ≤ c) :
    Calls Try.prog 84 #[.slice (some ⟨b, o, none⟩) (2 * h) c] w (Made (2 * h) (fun q => f (unN h 0 q)) w) := by
  go_enter Try.func84, Try.ntmps84
  go_wp2_with fail
  refine (halves_any b o h c _ h1 h16 hc).mono ?_
  rintro e w1 ⟨rfl, hb1⟩
  go_wp2_with fail
  refine (laid_any b o b (o + h) h f (fun i => f (h + i)) _ (hS.bel hb1).left (hS.bel hb1).right h1 h16).mono ?_
  rintro e w2 ⟨g, rfl, hg, hb2, hr⟩
  go_wp2
  go_ret
  exact ⟨g, rfl, Nat.le_trans hb1.size hg, hb1.trans hb2, hr.congr fun i _ => laid_out f i⟩
set_option maxRecDepth 100000 in
set_option maxHeartbeats 1000000 in
theorem in_any (b o h c : Nat) (f : Nat → Int) (w : World) (hS : Seg w b o (2 * h) f) (h1 : 1 ≤ h) (h16 : h ≤ 16) (hc : 2 * h ≤ c) :
    Calls Try.prog 85 #[.slice (some ⟨b, o, none⟩) (2 * h) c] w (Made (2 * h) (fun q => f (unN h 1 q)) w) := by
  go_enter Try.func85, Try.ntmps85
  go_wp2_with fail
  refine (halves_any b o h c _ h1 h16 hc).mono ?_
  rintro e w1 ⟨rfl, hb1⟩
  go_wp2_with fail
  refine (laid_any b (o + h) b o h (fun i => f (h + i)) f _ (hS.bel hb1).right (hS.bel hb1).left h1 h16).mono ?_
  rintro e w2 ⟨g, rfl, hg, hb2, hr⟩
  go_wp2
  go_ret
  exact ⟨g, rfl, Nat.le_trans hb1.size hg, hb1.trans hb2, hr.congr fun i _ => laid_in f i⟩
/-- What parting has laid by round k. -/
def partF (f : Nat → Int) (oe od k j : Nat) : Int := if oe ≤ j ∧ j < oe + k then f (2 * (j - oe)) else if od ≤ j ∧ j < od + k then f (2 * (j - od) + 1) else 0
theorem partF_step {f : Nat → Int} {oe od h k : Nat} (hd : (oe = 0 ∧ od = h) ∨ (oe = h ∧ od = 0)) (hk : k < h) (j : Nat) :
    partF f oe od (k + 1) j = if j = od + k then f (2 * k + 1) else if j = oe + k then f (2 * k) else partF f oe od k j := by
  unfold partF
  by_cases h1 : j = od + k
  · subst h1
    rw [if_pos rfl, if_neg (by omega), if_pos (by omega), show od + k - od = k from by omega]
  · rw [if_neg h1]
    by_cases h2 : j = oe + k
    · subst h2
      rw [if_pos rfl, if_pos (by omega), show oe + k - oe = k from by omega]
    · rw [if_neg h2]
      by_cases h3 : oe ≤ j ∧ j < oe + k
      · rw [if_pos h3, if_pos (by omega)]
      · rw [if_neg h3, if_neg (by omega)]
        by_cases h4 : od ≤ j ∧ j < od + k
        · rw [if_pos h4, if_pos (by omega)]
        · rw [if_neg h4, if_neg (by omega)]
theorem Row.part_step {w : World} {g h k oe od : Nat} {f : Nat → Int} (hr : Row w g (2 * h) (2 * h) (partF f oe od k)) (hd : (oe = 0 ∧ od = h) ∨ (oe = h ∧ od = 0)) (hk : k < h) :
    Row ((w.setCell ⟨g, oe + k, none⟩ (.int .i64 (f (2 * k)))).setCell ⟨g, od + k, none⟩ (.int .i64 (f (2 * k + 1)))) g (2 * h) (2 * h) (partF f oe od (k + 1)) :=
  ((hr.put (i := oe + k) (by omega) _).put (i := od + k) (by omega) _).congr fun j _ => partF_step hd hk j
theorem Seg.two {w : World} {b o h g : Nat} {f : Nat → Int} (hs : Seg w b o h f) (hbg : b ≠ g) (p q : Nat) (u v : Value) : Seg ((w.setCell ⟨g, p, none⟩ u).setCell ⟨g, q, none⟩ v) b o h f :=
  ⟨by simpa [World.setCell] using hs.lt, fun i hi => by
    rw [World.cell?_setCell_other _ _ _ _ (by first | (simp; done) | (simp; omega)), World.cell?_setCell_other _ _ _ _ (by first | (simp; done) | (simp; omega))]
    exact hs.cells i hi⟩
theorem Seg.drew {w : World} {b o h : Nat} {f : Nat → Int} (hs : Seg w b o h f) : Seg w.drew b o h f := ⟨hs.lt, hs.cells⟩
set_option maxRecDepth 100000 in
set_option maxHeartbeats 1000000 in
theorem part_any (b o h c g oe od : Nat) (f : Nat → Int) (w0 w : World) (hS : Seg w b o (2 * h) f) (h1 : 1 ≤ h) (h16 : h ≤ 16) (hd : (oe = 0 ∧ od = h) ∨ (oe = h ∧ od = 0)) (hbg : b ≠ g)
    (hb0 : Bel w0 w) (hg0 : w0.heap.size ≤ g) (hR : Row w g (2 * h) (2 * h) (partF f oe od 0)) :
    Calls Try.prog 105 #[.slice (some ⟨b, o, none⟩) (2 * h) c, .slice (some ⟨g, oe, none⟩) h h, .slice (some ⟨g, od, none⟩) h h] w fun e w' => e = .returned (.tuple #[]) ∧ Bel w0 w' ∧ Row w' g (2 * h) (2 * h) (partF f oe od h) := by
  go_enter Try.func105, Try.ntmps105
  go_wp2
  go_loopw [6, 9] (fun _ i wr => ∃ k : Nat, k ≤ h ∧ i = .int .i64 k ∧ Bel w0 wr ∧ Seg wr b o (2 * h) f ∧ Row wr g (2 * h) (2 * h) (partF f oe od k)) (fun _ i _ => h - (intOf i).toNat)
  case atStart => exact ⟨0, Nat.zero_le _, rfl, hb0, hS, hR⟩
  case round =>
    clear hS hb0 hR
    obtain ⟨k, hk, rfl, hb, hS, hrow⟩ := hrel
    by_cases hlt : k < h
    · have hki : (k : Int) < (h : Int) := by omega
      obtain ⟨v1, hv1⟩ := hrow.all (oe + k) (by omega)
      obtain ⟨v2, hv2⟩ := hrow.all (od + k) (by omega)
      have hf1 := hrow.fz (oe + k)
      have hf2 := hrow.fz (od + k)
      have hgl := hrow.lt
      have c1 := hS.cells (2 * k) (by omega)
      have c2 := hS.cells (2 * k + 1) (by omega)
      have n1 := hS.lt
      go_wp2
      go_region
      go_wp2
      go_roundw
      case rel => exact ⟨k + 1, by omega, by go_num, by (repeat (first | exact Bel.refl _ | assumption | refine Bel.drew ?_ | refine Bel.drewN ?_ _ | refine Bel.alloc ?_ _ | refine Bel.setCell ?_ (by first | omega | (simp; done) | (simp; omega) | (simp at *; omega)) _ | refine Bel.trans ?_ (by assumption))), by first | exact hS.two hbg _ _ _ _ | exact (hS.two hbg _ _ _ _).drew, by first | exact hrow.part_step hd hlt | exact (hrow.part_step hd hlt).drew⟩
      case measure => simp [intOf]; omega
    · obtain rfl : k = h := by omega
      go_wp2
      go_end0
      exact ⟨rfl, hb, hrow⟩
/-- What undoes the folds. -/
theorem part_out {h : Nat} (f : Nat → Int) (q : Nat) (hq : q < 2 * h) : f (goN h 0 q) = partF f 0 h h q := by
  unfold goN partF
  by_cases h1 : q < h
  · rw [if_pos h1, if_pos (by omega)] <;> congr 1
  · rw [if_neg h1, if_neg (by omega), if_pos (by omega)] <;> congr 1
theorem part_in {h : Nat} (f : Nat → Int) (q : Nat) (hq : q < 2 * h) : f (goN h 1 q) = partF f h 0 h q := by
  unfold goN partF
  by_cases h1 : q < h
  · rw [if_pos h1, if_neg (by omega), if_pos (by omega)] <;> congr 1
  · rw [if_neg h1, if_pos (by omega)] <;> congr 1
theorem part_zero (f : Nat → Int) (oe od j : Nat) : partF f oe od 0 j = 0 := by unfold partF; rw [if_neg (by omega), if_neg (by omega)]
set_option maxRecDepth 100000 in
set_option maxHeartbeats 1000000 in
theorem unOut_any (b o h c : Nat) (f : Nat → Int) (w : World) (hS : Seg w b o (2 * h) f) (h1 : 1 ≤ h) (h16 : h ≤ 16) :
    Calls Try.prog 86 #[.slice (some ⟨b, o, none⟩) (2 * h) c] w (Made (2 * h) (fun q => f (goN h 0 q)) w) := by
  have hmk := make_two h h16
  have hrow0 : Row (w.alloc (.cells (madeCells #[.int .i64 0] (2 * h)) 3)) w.heap.size (2 * h) (2 * h) (partF f 0 h 0) := Row.whole _ _ _ _ _ fun i hi => by rw [part_zero]; exact made_int _ i hi
  have hlt := hS.lt
  go_enter Try.func86, Try.ntmps86
  go_wp2_with fail
  refine (halves_any w.heap.size 0 h (2 * h) _ h1 h16 (Nat.le_refl _)).mono ?_
  rintro e w1 ⟨rfl, hb1⟩
  rw [Nat.zero_add]
  go_wp2_with fail
  refine (part_any b o h c w.heap.size 0 h f w _ (hS.bel (((Bel.refl w).alloc _).trans hb1)) h1 h16 (.inl ⟨rfl, rfl⟩) (by omega) (((Bel.refl w).alloc _).trans hb1) (Nat.le_refl _) (hrow0.bel hb1)).mono ?_
  rintro e w2 ⟨rfl, hb2, hr⟩
  go_wp2
  go_ret
  exact ⟨_, rfl, Nat.le_refl _, hb2, hr.congr fun i hi => part_out f i hi⟩
set_option maxRecDepth 100000 in
set_option maxHeartbeats 1000000 in
theorem unIn_any (b o h c : Nat) (f : Nat → Int) (w : World) (hS : Seg w b o (2 * h) f) (h1 : 1 ≤ h) (h16 : h ≤ 16) :
    Calls Try.prog 87 #[.slice (some ⟨b, o, none⟩) (2 * h) c] w (Made (2 * h) (fun q => f (goN h 1 q)) w) := by
  have hmk := make_two h h16
  have hrow0 : Row (w.alloc (.cells (madeCells #[.int .i64 0] (2 * h)) 3)) w.heap.size (2 * h) (2 * h) (partF f h 0 0) := Row.whole _ _ _ _ _ fun i hi => by rw [part_zero]; exact made_int _ i hi
  have hlt := hS.lt
  go_enter Try.func87, Try.ntmps87
  go_wp2_with fail
  refine (halves_any w.heap.size 0 h (2 * h) _ h1 h16 (Nat.le_refl _)).mono ?_
  rintro e w1 ⟨rfl, hb1⟩
  rw [Nat.zero_add]
  go_wp2_with fail
  refine (part_any b o h c w.heap.size h 0 f w _ (hS.bel (((Bel.refl w).alloc _).trans hb1)) h1 h16 (.inr ⟨rfl, rfl⟩) (by omega) (((Bel.refl w).alloc _).trans hb1) (Nat.le_refl _) (hrow0.bel hb1)).mono ?_
  rintro e w2 ⟨rfl, hb2, hr⟩
  go_wp2
  go_ret
  exact ⟨_, rfl, Nat.le_refl _, hb2, hr.congr fun i hi => part_in f i hi⟩
end Go.Proofs.Ythjjpmcefiddmaa
