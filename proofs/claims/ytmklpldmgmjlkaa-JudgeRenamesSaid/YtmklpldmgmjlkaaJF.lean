/- Judging: the closure that seeks a question, and remembers what it found. -/
import Derived.Test.YtmklpldmgmjlkaaJE
namespace Go.Proofs.Ytmklpldmgmjlkaa
open Go.RowKit Go.Maps

theorem zeroQ (w : World) : (zeroValue 65).run Try.prog w = .ok (.agg #[.int .i64 0, .int .i64 0, .bool false]) w := by kernel_rfl
section
variable (w : World) {ops : Array Oper} {rest : List Oper} {o : Oper} {a : Act} {Q : Exit → Act → World → Prop}
/-- What is known of a state. -/
theorem wpList_known (hg : o.guard = none) (m x : Operand) (hop : o.op = Op.lookup 80 m x true) (M n : Nat) (D : DataW Unit) (hm : a.eval m = .map (some M)) (hown : w.ownsMap Try.prog 82 qR M n D)
    (c d q : Nat) (hx : a.eval x = .agg #[.int .i64 (c : Int), .int .i64 (d : Int), .int .i64 (q : Int)]) (h1 : c ≤ 1000) (h2 : d ≤ 1000) (h3 : q ≤ 1000) (u v : Int) (ok is : Bool) (hat : D.atKey (keyL c d q) (qD 0 0 false) = qD u v ok) (hhas : Maps.has D (keyL c d q) = is)
    (hK : wpList Try.prog ops Q rest (a.put o.dst (.tuple #[.agg #[.int .i64 u, .int .i64 v, .bool ok], .bool is])) w) : wpList Try.prog ops Q (o :: rest) a w :=
  wpList_lookup_own_ok w hg m x 80 hop 82 65 askedKeyed Try.underlying80 qR (zeroQ w) (qD 0 0 false) [] (qR_mk 0 0 false) M n D hm hown _ (keyL c d q) hx (keyOf_asked c d q h1 h2 h3) fun v' ps hv => by
    rw [hat] at hv
    obtain rfl := qR_inv hv
    rw [hhas]
    exact hK
end
theorem Inv.grown {w w' : World} {M m s : Nat} (h : Inv w M m s) (hg : Gr M w w') (hk : Known w' M) : Inv w' M m s :=
  ⟨hk, (hg.cell h.lm h.nm 0).trans h.cm, (hg.cell h.ls h.ns 0).trans h.cs, h.nm, h.ns, Nat.lt_of_lt_of_le h.lm hg.size, Nat.lt_of_lt_of_le h.ls hg.size⟩
theorem after_put {w2 w3 : World} {M R : Nat} {x y z a b c : Value} {ty : TypeId} (h : (w2.alloc (.cells #[x, y, z] ty)).grownBy w3 (some M)) (hM : M < w2.heap.size) (hR : R < w2.heap.size) (hRM : R ≠ M)
    (k0 : w2.cell? ⟨R, 0, none⟩ = some a) (k1 : w2.cell? ⟨R, 1, none⟩ = some b) (k2 : w2.cell? ⟨R, 2, none⟩ = some c) (kf : ∀ o, w2.frozen? ⟨R, o, none⟩ = false) :
    (w3.cell? ⟨w2.heap.size, 0, none⟩ = some x ∧ w3.cell? ⟨w2.heap.size, 1, none⟩ = some y ∧ w3.cell? ⟨w2.heap.size, 2, none⟩ = some z) ∧ (w3.cell? ⟨R, 0, none⟩ = some a ∧ w3.cell? ⟨R, 1, none⟩ = some b ∧ w3.cell? ⟨R, 2, none⟩ = some c) ∧
    (w3.frozen? ⟨R, 0, none⟩ = false ∧ w3.frozen? ⟨R, 1, none⟩ = false ∧ w3.frozen? ⟨R, 2, none⟩ = false) := by
  have hg : Gr M (w2.alloc (.cells #[x, y, z] ty)) w3 := h
  have hn : w2.heap.size ≠ M := by omega
  have hb : Bel w2 (w2.alloc (.cells #[x, y, z] ty)) := (Bel.refl w2).alloc _
  refine ⟨⟨?_, ?_, ?_⟩, ⟨?_, ?_, ?_⟩, ⟨?_, ?_, ?_⟩⟩
  · exact (hg.cell (by simp) hn 0).trans (by go_simp)
  · exact (hg.cell (by simp) hn 1).trans (by go_simp)
  · exact (hg.cell (by simp) hn 2).trans (by go_simp)
  · exact (hg.cell (by simp; omega) hRM 0).trans ((hb.use.1 _ _ hR).trans k0)
  · exact (hg.cell (by simp; omega) hRM 1).trans ((hb.use.1 _ _ hR).trans k1)
  · exact (hg.cell (by simp; omega) hRM 2).trans ((hb.use.1 _ _ hR).trans k2)
  · exact (hg.frozen (by simp; omega) hRM 0).trans ((hb.use.2.1 _ _ hR).trans (kf 0))
  · exact (hg.frozen (by simp; omega) hRM 1).trans ((hb.use.2.1 _ _ hR).trans (kf 1))
  · exact (hg.frozen (by simp; omega) hRM 2).trans ((hb.use.2.1 _ _ hR).trans (kf 2))
theorem stored5 {w : World} {g : Nat} {a b c x y z : Value} {o o' : Obj} (hg : g < w.heap.size) (h0 : w.cell? ⟨g, 0, none⟩ = some a) (h1 : w.cell? ⟨g, 1, none⟩ = some b) (h2 : w.cell? ⟨g, 2, none⟩ = some c) :
    (((((w.setCell ⟨g, 0, none⟩ x).setCell ⟨g, 1, none⟩ y).setCell ⟨g, 2, none⟩ z).alloc o).alloc o').cell? ⟨g, 0, none⟩ = some x ∧ (((((w.setCell ⟨g, 0, none⟩ x).setCell ⟨g, 1, none⟩ y).setCell ⟨g, 2, none⟩ z).alloc o).alloc o').cell? ⟨g, 1, none⟩ = some y ∧
    (((((w.setCell ⟨g, 0, none⟩ x).setCell ⟨g, 1, none⟩ y).setCell ⟨g, 2, none⟩ z).alloc o).alloc o').cell? ⟨g, 2, none⟩ = some z := by
  obtain ⟨q0, q1, q2⟩ := stored3 (x := x) (y := y) (z := z) h0 h1 h2
  have hb := ((Bel.refl (((w.setCell ⟨g, 0, none⟩ x).setCell ⟨g, 1, none⟩ y).setCell ⟨g, 2, none⟩ z)).alloc o).alloc o'
  have hs : g < (((w.setCell ⟨g, 0, none⟩ x).setCell ⟨g, 1, none⟩ y).setCell ⟨g, 2, none⟩ z).heap.size := by simpa [World.setCell] using hg
  refine ⟨?_, ?_, ?_⟩ <;> rw [hb.use.1 _ _ hs]
  · rw [World.cell?_setCell_other _ _ _ _ (by simp), World.cell?_setCell_other _ _ _ _ (by simp)]; exact q0
  · rw [World.cell?_setCell_other _ _ _ _ (by simp)]; exact q1
  · exact q2
theorem many : 40000 < maxLen := by unfold maxLen; omega
theorem heavy_en {q a b : Nat} (h : 2 ^ q < a * (q + 1) + b) : en q a b = false := by
  cases he : en q a b
  · rfl
  · have := en_weight he; omega
theorem light_pos {q a b : Nat} (hn : ¬ a + b ≤ 1) (h : ¬ 2 ^ q < a * (q + 1) + b) : ∃ p, q = p + 1 := by
  cases q with
  | zero => simp at h; omega
  | succ p => exact ⟨p, rfl⟩
theorem below3' (n : Nat) (w : World) (x y z : Value) : Below n w (((w.setCell ⟨n + 2, 0, none⟩ x).setCell ⟨n + 2, 1, none⟩ y).setCell ⟨n + 2, 2, none⟩ z) :=
  (((Below.refl _ _).setCell (by simp <;> omega) _).setCell (by simp <;> omega) _).setCell (by simp <;> omega) _

set_option maxRecDepth 100000 in
set_option maxHeartbeats 1000000 in
theorem seek_heavy (M m s q a b : Nat) (w : World) (hm : a + b ≤ 48) (hq : q ≤ 12) (hI : Inv w M m s) (hh : 2 ^ q < a * (q + 1) + b) :
    Calls Try.prog 56 #[.agg #[.int .i64 (a : Int), .int .i64 (b : Int)], .int .i64 (q : Int), .pointer (some ⟨m, 0, none⟩), .pointer (some ⟨s, 0, none⟩)] w (Sought M m s q a b w) := by
  have HH := Lib.hid hh
  clear hh
  go_enter Try.func56, Try.ntmps56
  go_wp2_with fail
  refine (heavy_yes a b q _ hm hq HH.out).mono ?_
  rintro e w1 ⟨rfl, hb1⟩
  have hw1 : Bel w w1 := by (repeat (first | exact Bel.refl _ | assumption | refine Bel.drew ?_ | refine Bel.drewN ?_ _ | refine Bel.alloc ?_ _ | refine Bel.setCell ?_ (by first | omega | (simp; done) | (simp; omega) | (simp at *; omega)) _ | refine Bel.trans ?_ (by assumption)))
  have hr0 : w1.cell? ⟨w.heap.size + 2, 0, none⟩ = some (.int .i64 0) := (hb1.use.1 _ _ (by simp <;> omega)).trans (by go_simp)
  have hr1 : w1.cell? ⟨w.heap.size + 2, 1, none⟩ = some (.int .i64 0) := (hb1.use.1 _ _ (by simp <;> omega)).trans (by go_simp)
  have hr2 : w1.cell? ⟨w.heap.size + 2, 2, none⟩ = some (.bool false) := (hb1.use.1 _ _ (by simp <;> omega)).trans (by go_simp)
  have hf00 : w1.frozen? ⟨w.heap.size + 2, 0, none⟩ = false := (hb1.use.2.1 _ _ (by simp <;> omega)).trans (by go_simp)
  have hf01 : w1.frozen? ⟨w.heap.size + 2, 1, none⟩ = false := (hb1.use.2.1 _ _ (by simp <;> omega)).trans (by go_simp)
  have hf02 : w1.frozen? ⟨w.heap.size + 2, 2, none⟩ = false := (hb1.use.2.1 _ _ (by simp <;> omega)).trans (by go_simp)
  clear hb1
  go_wp2
  obtain ⟨q0, q1, q2⟩ := stored3 (x := .int .i64 0) (y := .int .i64 0) (z := .bool false) hr0 hr1 hr2
  refine bodyPost_ret (v := .agg #[.int .i64 0, .int .i64 0, .bool false]) (by simp [results, Try.results56, go_sem, q0, q1, q2]) rfl ⟨0, 0, false, rfl, ?_, ?_, ?_⟩
  · exact ⟨(heavy_en HH.out).symm, (fun hh => by cases hh), fun _ => ⟨rfl, rfl⟩⟩
  · exact (hI.bel hw1).below (B := w.heap.size) (below3' _ _ _ _ _) hI.lm hI.ls hI.known.lt
  · exact (Gr.of_bel hw1).far (below3' _ _ _ _ _) (Nat.le_refl _)

set_option maxRecDepth 100000 in
set_option maxHeartbeats 1000000 in
theorem seek_light (M m s p a b : Nat) (w : World) (hm : a + b ≤ 48) (hn : ¬ a + b ≤ 1) (hp : p + 1 ≤ 12) (hI : Inv w M m s) (hh : ¬ 2 ^ (p + 1) < a * (p + 1 + 1) + b)
    (ih : Hid (∀ (a b : Nat) (w : World), a + b ≤ 48 → ¬ a + b ≤ 1 → Inv w M m s → Calls Try.prog 56 #[.agg #[.int .i64 (a : Int), .int .i64 (b : Int)], .int .i64 (p : Int), .pointer (some ⟨m, 0, none⟩), .pointer (some ⟨s, 0, none⟩)] w (Sought M m s p a b w))) :
    Calls Try.prog 56 #[.agg #[.int .i64 (a : Int), .int .i64 (b : Int)], .int .i64 ((p + 1 : Nat) : Int), .pointer (some ⟨m, 0, none⟩), .pointer (some ⟨s, 0, none⟩)] w (Sought M m s (p + 1) a b w) := by
  have HH := Lib.hid hh
  clear hh
  go_enter Try.func56, Try.ntmps56
  go_wp2_with fail
  refine (heavy_no a b (p + 1) _ hm hp HH.out).mono ?_
  rintro e w1 ⟨rfl, hb1⟩
  have hw1 : Bel w w1 := by (repeat (first | exact Bel.refl _ | assumption | refine Bel.drew ?_ | refine Bel.drewN ?_ _ | refine Bel.alloc ?_ _ | refine Bel.setCell ?_ (by first | omega | (simp; done) | (simp; omega) | (simp at *; omega)) _ | refine Bel.trans ?_ (by assumption)))
  have hI1 := hI.bel hw1
  have c1 := hI1.cm
  have ba : w1.cell? ⟨w.heap.size, 0, none⟩ = some (.int .i64 (a : Int)) := (hb1.use.1 _ _ (by simp <;> omega)).trans (by go_simp)
  have bb : w1.cell? ⟨w.heap.size, 1, none⟩ = some (.int .i64 (b : Int)) := (hb1.use.1 _ _ (by simp <;> omega)).trans (by go_simp)
  have bq : w1.cell? ⟨w.heap.size + 1, 0, none⟩ = some (.int .i64 ((p : Int) + 1)) := (hb1.use.1 _ _ (by simp <;> omega)).trans (by go_simp)
  have lm1 : m < w1.heap.size := hI1.lm
  have ls1 : s < w1.heap.size := hI1.ls
  have lw1 : w.heap.size + 2 < w1.heap.size := by have := hb1.size; simp at this; omega
  have lw2 : w.heap.size < w1.heap.size := by omega
  have lw3 : w.heap.size + 1 < w1.heap.size := by omega
  have hp1 : (p : Int) + 1 ≤ 12 := by omega
  have hQ1 : w.heap.size + 1 ≠ M := by have := hI.known.lt; omega
  have hR1 : w.heap.size + 2 ≠ M := by have := hI.known.lt; omega
  have hS1 : w1.heap.size ≠ M := by have := hI1.known.lt; omega
  have hr0 : w1.cell? ⟨w.heap.size + 2, 0, none⟩ = some (.int .i64 0) := (hb1.use.1 _ _ (by simp <;> omega)).trans (by go_simp)
  have hr1 : w1.cell? ⟨w.heap.size + 2, 1, none⟩ = some (.int .i64 0) := (hb1.use.1 _ _ (by simp <;> omega)).trans (by go_simp)
  have hr2 : w1.cell? ⟨w.heap.size + 2, 2, none⟩ = some (.bool false) := (hb1.use.1 _ _ (by simp <;> omega)).trans (by go_simp)
  have hf0 : ∀ o, w1.frozen? ⟨w.heap.size + 2, o, none⟩ = false := fun o => (hb1.use.2.1 _ _ (by simp <;> omega)).trans (by go_simp)
  obtain ⟨D, hG, hown⟩ := hI1.known
  have HG := Lib.hid hG
  have HF0 := Lib.hid hf0
  have hmf : ∀ (fn : Fn) (first cap : Array Value) (w : World), (Instr.makeFunc fn first cap).run Try.prog w = .ok (.func fn first cap) w := fun _ _ _ _ => rfl
  clear hb1 hG hf0
  have hq2 : ((w1.alloc (.cells #[.int .i64 (a : Int), .int .i64 (b : Int), .int .i64 ((p : Int) + 1)] 82)).alloc (.cells #[.int .i64 0, .int .i64 0, .bool false] 65)).cell? ⟨w.heap.size + 1, 0, none⟩ = some (.int .i64 ((p : Int) + 1)) := by
    rw [(((Bel.refl w1).alloc _).alloc _).use.1 _ _ (by omega)]; exact bq
  have HQ2 := Lib.hid hq2
  clear hq2
  cases hhas : Maps.has D (keyL a b (p + 1))
  · have HD := Lib.hid hhas
    have R0 := Lib.hid hr0; have R1 := Lib.hid hr1; have R2 := Lib.hid hr2
    clear hhas hr0 hr1 hr2
    go_wp2_with (at_lookup; go_loud (refine wpList_known _ rfl _ _ rfl M 40000 D rfl (hown.alloc _) a b (p + 1) rfl (by omega) (by omega) (by omega) 0 0 false false (atKey_of_not_has HD.out _) HD.out ?_))
    refine (first_any M m s p (by omega) ih a b (w.heap.size + 1) _ hm hn (hI1.bel (by (repeat (first | exact Bel.refl _ | assumption | refine Bel.drew ?_ | refine Bel.drewN ?_ _ | refine Bel.alloc ?_ _ | refine Bel.setCell ?_ (by first | omega | (simp; done) | (simp; omega) | (simp at *; omega)) _ | refine Bel.trans ?_ (by assumption))))) (by simp <;> omega) hQ1 HQ2.out).mono ?_
    rintro e w2 ⟨x, y, ok, rfl, hr, hI2, hg2⟩
    have HR := Lib.hid hr
    have W2 : w1.heap.size + 1 < w2.heap.size := by have := hg2.size; simp at this; omega
    have g0 : w2.cell? ⟨w1.heap.size, 0, none⟩ = some (.int .i64 (a : Int)) := (hg2.cell (by simp <;> omega) hS1 0).trans (by go_simp)
    have g1 : w2.cell? ⟨w1.heap.size, 1, none⟩ = some (.int .i64 (b : Int)) := (hg2.cell (by simp <;> omega) hS1 1).trans (by go_simp)
    have g2 : w2.cell? ⟨w1.heap.size, 2, none⟩ = some (.int .i64 ((p : Int) + 1)) := (hg2.cell (by simp <;> omega) hS1 2).trans (by go_simp)
    have hw1' : Bel w1 ((w1.alloc (.cells #[.int .i64 (a : Int), .int .i64 (b : Int), .int .i64 ((p : Int) + 1)] 82)).alloc (.cells #[.int .i64 0, .int .i64 0, .bool false] 65)) := by (repeat (first | exact Bel.refl _ | assumption | refine Bel.drew ?_ | refine Bel.drewN ?_ _ | refine Bel.alloc ?_ _ | refine Bel.setCell ?_ (by first | omega | (simp; done) | (simp; omega) | (simp at *; omega)) _ | refine Bel.trans ?_ (by assumption)))
    have k0 : w2.cell? ⟨w.heap.size + 2, 0, none⟩ = some (.int .i64 0) := (hg2.cell (by simp <;> omega) hR1 0).trans ((hw1'.use.1 _ _ lw1).trans R0.out)
    have k1 : w2.cell? ⟨w.heap.size + 2, 1, none⟩ = some (.int .i64 0) := (hg2.cell (by simp <;> omega) hR1 1).trans ((hw1'.use.1 _ _ lw1).trans R1.out)
    have k2 : w2.cell? ⟨w.heap.size + 2, 2, none⟩ = some (.bool false) := (hg2.cell (by simp <;> omega) hR1 2).trans ((hw1'.use.1 _ _ lw1).trans R2.out)
    have kf : ∀ o, w2.frozen? ⟨w.heap.size + 2, o, none⟩ = false := fun o => (hg2.frozen (by simp <;> omega) hR1 o).trans ((hw1'.use.2.1 _ _ lw1).trans (HF0.out o))
    have KF := Lib.hid kf
    have hG2 : Gr M w w2 := (Gr.of_bel (hw1.trans hw1')).trans hg2
    have lm2 : m < w2.heap.size := hI2.lm
    have cm2 := hI2.cm
    have lM2 : M < w2.heap.size := hI2.known.lt
    have lS2 : w1.heap.size < w2.heap.size := by omega
    have lR2 : w.heap.size + 2 < w2.heap.size := by omega
    obtain ⟨D2, hGD2, hown2⟩ := hI2.known
    have HGD := Lib.hid hGD2
    clear hr hg2 kf hGD2 hw1' c1 ba bb bq
    go_wp2_with (at_mapUpdate; go_loud (refine wpList_mapUpdate_own _ rfl _ _ _ 80 rfl 82 65 askedKeyed Try.underlying80 qR M 40000 D2 rfl (hown2.alloc _) many _ _ (keyL a b (p + 1)) rfl rfl (keyOf_asked a b (p + 1) (by omega) (by omega) (by omega)) (qD x y ok) [] (qR_mk _ _ _) ?_); intro w3 hown3 hgr3; obtain ⟨⟨p0, p1, p2⟩, ⟨r0, r1, r2⟩, f0, f1, f2⟩ := after_put hgr3 lM2 lR2 hR1 k0 k1 k2 KF.out)
    obtain ⟨q0, q1, q2⟩ := stored3 (x := .int .i64 (x : Int)) (y := .int .i64 (y : Int)) (z := .bool ok) r0 r1 r2
    have hg23 : Gr M w2 w3 := (Gr.of_bel ((Bel.refl w2).alloc _)).trans hgr3
    refine bodyPost_ret (v := .agg #[.int .i64 (x : Int), .int .i64 (y : Int), .bool ok]) (by simp [results, Try.results56, go_sem, q0, q1, q2]) rfl ⟨x, y, ok, rfl, HR.out, ?_, ?_⟩
    · exact (hI2.grown hg23 (Known.of hown3 (HGD.out.put hm hp HR.out))).below (B := w.heap.size) (below3' _ _ _ _ _) hI.lm hI.ls hI.known.lt
    · exact (hG2.trans hg23).far (below3' _ _ _ _ _) (Nat.le_refl _)
  · obtain ⟨es, hes, hgood, hbox⟩ := HG.out
    obtain ⟨x, y, ok, hat, hr⟩ := hgood a b (p + 1) hm hp hhas
    have HD := Lib.hid hhas
    have HA := Lib.hid hat
    have HR := Lib.hid hr
    have lR1 : w.heap.size + 2 < w1.heap.size := lw1
    have hf00 := HF0.out 0
    have hf01 := HF0.out 1
    have hf02 := HF0.out 2
    clear hhas hes hgood hbox hat hr HG
    go_wp2_with (at_lookup; go_loud (refine wpList_known _ rfl _ _ rfl M 40000 D rfl (hown.alloc _) a b (p + 1) rfl (by omega) (by omega) (by omega) x y ok true HA.out HD.out ?_))
    obtain ⟨q0, q1, q2⟩ := stored5 (o := .cells #[.int .i64 (a : Int), .int .i64 (b : Int), .int .i64 ((p : Int) + 1)] 82) (o' := .cells #[.int .i64 (x : Int), .int .i64 (y : Int), .bool ok] 65) (g := w.heap.size + 1 + 1) (x := .int .i64 (x : Int)) (y := .int .i64 (y : Int)) (z := .bool ok) lw1 hr0 hr1 hr2
    refine bodyPost_ret (v := .agg #[.int .i64 (x : Int), .int .i64 (y : Int), .bool ok]) (by simp [results, Try.results56, go_sem, q0, q1, q2]) rfl ⟨x, y, ok, rfl, HR.out, ?_, ?_⟩
    · exact hI1.below (B := w.heap.size) (((below3' _ _ _ _ _).alloc (by simp [World.setCell]; omega) _).alloc (by simp [World.setCell]; omega) _) hI.lm hI.ls hI.known.lt
    · exact (Gr.of_bel hw1).far (((below3' _ _ _ _ _).alloc (by simp [World.setCell]; omega) _).alloc (by simp [World.setCell]; omega) _) (Nat.le_refl _)

/-- The closure, by induction on the questions to come. -/
theorem seek_any (M m s : Nat) : ∀ (q : Nat), q ≤ 12 → ∀ (a b : Nat) (w : World), a + b ≤ 48 → ¬ a + b ≤ 1 → Inv w M m s →
    Calls Try.prog 56 #[.agg #[.int .i64 (a : Int), .int .i64 (b : Int)], .int .i64 (q : Int), .pointer (some ⟨m, 0, none⟩), .pointer (some ⟨s, 0, none⟩)] w (Sought M m s q a b w) := by
  intro q
  induction q with
  | zero =>
    intro hq a b w hm hn hI
    exact seek_heavy M m s 0 a b w hm hq hI (by simp; omega)
  | succ p ih =>
    intro hq a b w hm hn hI
    by_cases hh : 2 ^ (p + 1) < a * (p + 1 + 1) + b
    · exact seek_heavy M m s (p + 1) a b w hm hq hI hh
    · exact seek_light M m s p a b w hm hn hq hI hh (Lib.hid (ih (by omega)))
end Go.Proofs.Ytmklpldmgmjlkaa

