/-
  The statement TopWashSaid: for any lots, pot and moves what sinks and what stays is all; more settlings leave no more above; a lot is finer exactly if moves lead to it, with the work that its sums tell; the lists stay as they were in their spare cells, too. No condition.
-/
import Derived.Test.YtmbhhooiaonhjaaSK
import Derived.Deep.RegionHeld3
import Derived.Deep.RegionWith
import Derived.Deep.DeepCutAuto
namespace Go.Proofs.Ytmbhhooiaonhjaa.topWash
open Go.ChangeShapes Go.WideShapes Go.ChangeAt Go.RowKit Go.Joins

theorem boxesearly {w w' : World} {v0 v1 v2 : Value} {t d : Int} {ty ty' : TypeId} (h : Bel ((w.alloc (.cells #[v0, v1, v2] ty)).alloc (.cells #[.int .i64 t, .int .i64 d] ty')) w') :
    w'.cell? ⟨w.heap.size, 0, none⟩ = some v0 ∧ w'.cell? ⟨w.heap.size, 1, none⟩ = some v1 ∧ w'.cell? ⟨w.heap.size, 2, none⟩ = some v2 ∧ w'.cell? ⟨w.heap.size + 1, 0, none⟩ = some (.int .i64 t) ∧ w'.cell? ⟨w.heap.size + 1, 1, none⟩ = some (.int .i64 d) := by
  refine ⟨?_, ?_, ?_, ?_, ?_⟩ <;> (rw [h.use.1 _ _ (by simp <;> omega)]; go_simp)

set_option maxRecDepth 100000 in
set_option maxHeartbeats 16000000 in
theorem long1 (A B C : Option Addr) (n c m e l k : Nat) (gs hs : List (Int × Int)) (ms : List (Int × Int × Int)) (t d T : Int) (w : World) (hR : Prs w A gs) (hS : Prs w B hs) (hV : Trs w C ms) (h40 : 40 < n) :
    Calls Try.prog 13 #[.agg #[.slice A n c, .slice B m e, .slice C l k], .agg #[.int .i64 t, .int .i64 d], .int .i64 T] w fun e w' => e = .returned (.bool true) ∧ Bel w w' := by
  have hk : decide (40 < n) = true := by simpa using h40
  clear h40
  have Held := Lib.hid (fun w' h => boxesearly (w := w) (v0 := .slice A n c) (v1 := .slice B m e) (v2 := .slice C l k) (t := t) (d := d) (ty := 34) (ty' := 30) (w' := w') h)
  have P1 := Lib.hid (congrArg Prod.fst part1); have P2 := Lib.hid (congrArg Prod.snd part1)
  simp only [nd] at P1 P2

  go_enter Try.func13, Try.ntmps13
  go_wp2_with fail
  refine (wpart_yes 3 2 10 _ (by decide)).mono ?_
  rintro e w1 ⟨rfl, hb1⟩
  rw [P1.out, P2.out]
  have hbw1 : Bel w w1 := by (repeat (first | exact Bel.refl _ | assumption | refine Bel.drew ?_ | refine Bel.drewN ?_ _ | refine Bel.alloc ?_ _ | refine Bel.setCell ?_ (by first | omega | (simp; done) | (simp; omega) | (simp at *; omega)) _ | refine Bel.trans ?_ (by assumption)))
  have held1 : ∀ w', Bel w1 w' → w'.cell? ⟨w.heap.size, 0, none⟩ = some (.slice A n c) ∧ w'.cell? ⟨w.heap.size, 1, none⟩ = some (.slice B m e) ∧ w'.cell? ⟨w.heap.size, 2, none⟩ = some (.slice C l k) ∧ w'.cell? ⟨w.heap.size + 1, 0, none⟩ = some (.int .i64 t) ∧ w'.cell? ⟨w.heap.size + 1, 1, none⟩ = some (.int .i64 d) := fun w' h => Held.out w' (hb1.trans h)
  have Held1 := Lib.hid held1
  clear held1
  have hR1 := hR.bel hbw1
  have hS1 := hS.bel hbw1
  have hV1 := hV.bel hbw1
  obtain ⟨c0, c1, c2, c3, c4⟩ := Held1.out w1 (Bel.refl _)
  obtain ⟨d0, d1, d2, d3, d4⟩ := Held1.out (w1.alloc (.cells #[.int .i64 3, .int .i64 5] 46)) ((Bel.refl _).alloc _)

  go_wp2_with (go_at_call 15; refine (long_any _ _ _ _).mono ?_; rintro e w' ⟨rfl, rfl⟩)
  go_ret
  exact ⟨rfl, by (repeat (first | exact Bel.refl _ | assumption | refine Bel.drew ?_ | refine Bel.drewN ?_ _ | refine Bel.alloc ?_ _ | refine Bel.setCell ?_ (by first | omega | (simp; done) | (simp; omega) | (simp at *; omega)) _ | refine Bel.trans ?_ (by assumption)))⟩

set_option maxRecDepth 100000 in
set_option maxHeartbeats 16000000 in
theorem long2 (A B C : Option Addr) (n c m e l k : Nat) (gs hs : List (Int × Int)) (ms : List (Int × Int × Int)) (t d T : Int) (w : World) (hR : Prs w A gs) (hS : Prs w B hs) (hV : Trs w C ms) (h40 : ¬ 40 < n) (h41 : 40 < m) :
    Calls Try.prog 13 #[.agg #[.slice A n c, .slice B m e, .slice C l k], .agg #[.int .i64 t, .int .i64 d], .int .i64 T] w fun e w' => e = .returned (.bool true) ∧ Bel w w' := by
  have hk : decide (40 < n) = false := by simpa using h40
  have hk2 : decide (40 < m) = true := by simpa using h41
  clear h40 h41
  have Held := Lib.hid (fun w' h => boxesearly (w := w) (v0 := .slice A n c) (v1 := .slice B m e) (v2 := .slice C l k) (t := t) (d := d) (ty := 34) (ty' := 30) (w' := w') h)
  have P1 := Lib.hid (congrArg Prod.fst part1); have P2 := Lib.hid (congrArg Prod.snd part1)
  simp only [nd] at P1 P2

  go_enter Try.func13, Try.ntmps13
  go_wp2_with fail
  refine (wpart_yes 3 2 10 _ (by decide)).mono ?_
  rintro e w1 ⟨rfl, hb1⟩
  rw [P1.out, P2.out]
  have hbw1 : Bel w w1 := by (repeat (first | exact Bel.refl _ | assumption | refine Bel.drew ?_ | refine Bel.drewN ?_ _ | refine Bel.alloc ?_ _ | refine Bel.setCell ?_ (by first | omega | (simp; done) | (simp; omega) | (simp at *; omega)) _ | refine Bel.trans ?_ (by assumption)))
  have held1 : ∀ w', Bel w1 w' → w'.cell? ⟨w.heap.size, 0, none⟩ = some (.slice A n c) ∧ w'.cell? ⟨w.heap.size, 1, none⟩ = some (.slice B m e) ∧ w'.cell? ⟨w.heap.size, 2, none⟩ = some (.slice C l k) ∧ w'.cell? ⟨w.heap.size + 1, 0, none⟩ = some (.int .i64 t) ∧ w'.cell? ⟨w.heap.size + 1, 1, none⟩ = some (.int .i64 d) := fun w' h => Held.out w' (hb1.trans h)
  have Held1 := Lib.hid held1
  clear held1
  have hR1 := hR.bel hbw1
  have hS1 := hS.bel hbw1
  have hV1 := hV.bel hbw1
  obtain ⟨c0, c1, c2, c3, c4⟩ := Held1.out w1 (Bel.refl _)
  obtain ⟨d0, d1, d2, d3, d4⟩ := Held1.out (w1.alloc (.cells #[.int .i64 3, .int .i64 5] 46)) ((Bel.refl _).alloc _)

  go_wp2_with (go_at_call 15; refine (long_any _ _ _ _).mono ?_; rintro e w' ⟨rfl, rfl⟩)
  go_ret
  exact ⟨rfl, by (repeat (first | exact Bel.refl _ | assumption | refine Bel.drew ?_ | refine Bel.drewN ?_ _ | refine Bel.alloc ?_ _ | refine Bel.setCell ?_ (by first | omega | (simp; done) | (simp; omega) | (simp at *; omega)) _ | refine Bel.trans ?_ (by assumption)))⟩

set_option maxRecDepth 100000 in
set_option maxHeartbeats 16000000 in
theorem long3 (A B C : Option Addr) (n c m e l k : Nat) (gs hs : List (Int × Int)) (ms : List (Int × Int × Int)) (t d T : Int) (w : World) (hR : Prs w A gs) (hS : Prs w B hs) (hV : Trs w C ms) (h40 : ¬ 40 < n) (h41 : ¬ 40 < m) (h60 : 60 < l) (hl9 : l ≤ maxLen) :
    Calls Try.prog 13 #[.agg #[.slice A n c, .slice B m e, .slice C l k], .agg #[.int .i64 t, .int .i64 d], .int .i64 T] w fun e w' => e = .returned (.bool true) ∧ Bel w w' := by
  have hk : decide (40 < n) = false := by simpa using h40
  have hk2 : decide (40 < m) = false := by simpa using h41
  have h60i : (60 : Int) < (l : Int) := by omega
  have hli : (l : Int) ≤ 9223372036854775807 := by unfold maxLen at hl9; omega
  clear h40 h41 hl9
  have Held := Lib.hid (fun w' h => boxesearly (w := w) (v0 := .slice A n c) (v1 := .slice B m e) (v2 := .slice C l k) (t := t) (d := d) (ty := 34) (ty' := 30) (w' := w') h)
  have P1 := Lib.hid (congrArg Prod.fst part1); have P2 := Lib.hid (congrArg Prod.snd part1)
  simp only [nd] at P1 P2

  go_enter Try.func13, Try.ntmps13
  go_wp2_with fail
  refine (wpart_yes 3 2 10 _ (by decide)).mono ?_
  rintro e w1 ⟨rfl, hb1⟩
  rw [P1.out, P2.out]
  have hbw1 : Bel w w1 := by (repeat (first | exact Bel.refl _ | assumption | refine Bel.drew ?_ | refine Bel.drewN ?_ _ | refine Bel.alloc ?_ _ | refine Bel.setCell ?_ (by first | omega | (simp; done) | (simp; omega) | (simp at *; omega)) _ | refine Bel.trans ?_ (by assumption)))
  have held1 : ∀ w', Bel w1 w' → w'.cell? ⟨w.heap.size, 0, none⟩ = some (.slice A n c) ∧ w'.cell? ⟨w.heap.size, 1, none⟩ = some (.slice B m e) ∧ w'.cell? ⟨w.heap.size, 2, none⟩ = some (.slice C l k) ∧ w'.cell? ⟨w.heap.size + 1, 0, none⟩ = some (.int .i64 t) ∧ w'.cell? ⟨w.heap.size + 1, 1, none⟩ = some (.int .i64 d) := fun w' h => Held.out w' (hb1.trans h)
  have Held1 := Lib.hid held1
  clear held1
  have hR1 := hR.bel hbw1
  have hS1 := hS.bel hbw1
  have hV1 := hV.bel hbw1
  obtain ⟨c0, c1, c2, c3, c4⟩ := Held1.out w1 (Bel.refl _)
  obtain ⟨d0, d1, d2, d3, d4⟩ := Held1.out (w1.alloc (.cells #[.int .i64 3, .int .i64 5] 46)) ((Bel.refl _).alloc _)

  go_wp2_with (go_at_call 15; refine (long_any _ _ _ _).mono ?_; rintro e w' ⟨rfl, rfl⟩)
  go_ret
  exact ⟨rfl, by (repeat (first | exact Bel.refl _ | assumption | refine Bel.drew ?_ | refine Bel.drewN ?_ _ | refine Bel.alloc ?_ _ | refine Bel.setCell ?_ (by first | omega | (simp; done) | (simp; omega) | (simp at *; omega)) _ | refine Bel.trans ?_ (by assumption)))⟩

set_option maxRecDepth 100000 in
set_option maxHeartbeats 16000000 in
theorem bad (A B C : Option Addr) (n c m e l k : Nat) (gs hs : List (Int × Int)) (ms : List (Int × Int × Int)) (t d T : Int) (w : World) (hR : Prs w A gs) (hS : Prs w B hs) (hV : Trs w C ms) (hn : gs.length = n) (hm : hs.length = m) (hl : ms.length = l) (h40 : ¬ 40 < n) (h41 : ¬ 40 < m) (h60 : ¬ 60 < l) (he : errV gs ≠ 0) :
    Calls Try.prog 13 #[.agg #[.slice A n c, .slice B m e, .slice C l k], .agg #[.int .i64 t, .int .i64 d], .int .i64 T] w fun e w' => e = .returned (.bool true) ∧ Bel w w' := by
  have hk : decide (40 < n) = false := by simpa using h40
  have hk2 : decide (40 < m) = false := by simpa using h41
  have h60i : ¬ (60 : Int) < (l : Int) := by omega
  have hmax : n ≤ maxLen := by unfold maxLen; omega
  have hmax2 : m ≤ maxLen := by unfold maxLen; omega
  have hmax3 : l ≤ maxLen := by unfold maxLen; omega
  clear h40 h41 h60
  have hne : (errV gs != 0) = true := by simpa using he
  clear he
  have Hn := Lib.hid hn
  clear hn hm hl
  have Held := Lib.hid (fun w' h => boxesearly (w := w) (v0 := .slice A n c) (v1 := .slice B m e) (v2 := .slice C l k) (t := t) (d := d) (ty := 34) (ty' := 30) (w' := w') h)
  have P1 := Lib.hid (congrArg Prod.fst part1); have P2 := Lib.hid (congrArg Prod.snd part1)
  simp only [nd] at P1 P2

  go_enter Try.func13, Try.ntmps13
  go_wp2_with fail
  refine (wpart_yes 3 2 10 _ (by decide)).mono ?_
  rintro e w1 ⟨rfl, hb1⟩
  rw [P1.out, P2.out]
  have hbw1 : Bel w w1 := by (repeat (first | exact Bel.refl _ | assumption | refine Bel.drew ?_ | refine Bel.drewN ?_ _ | refine Bel.alloc ?_ _ | refine Bel.setCell ?_ (by first | omega | (simp; done) | (simp; omega) | (simp at *; omega)) _ | refine Bel.trans ?_ (by assumption)))
  have held1 : ∀ w', Bel w1 w' → w'.cell? ⟨w.heap.size, 0, none⟩ = some (.slice A n c) ∧ w'.cell? ⟨w.heap.size, 1, none⟩ = some (.slice B m e) ∧ w'.cell? ⟨w.heap.size, 2, none⟩ = some (.slice C l k) ∧ w'.cell? ⟨w.heap.size + 1, 0, none⟩ = some (.int .i64 t) ∧ w'.cell? ⟨w.heap.size + 1, 1, none⟩ = some (.int .i64 d) := fun w' h => Held.out w' (hb1.trans h)
  have Held1 := Lib.hid held1
  clear held1
  have hR1 := hR.bel hbw1
  have hS1 := hS.bel hbw1
  have hV1 := hV.bel hbw1
  obtain ⟨c0, c1, c2, c3, c4⟩ := Held1.out w1 (Bel.refl _)
  obtain ⟨d0, d1, d2, d3, d4⟩ := Held1.out (w1.alloc (.cells #[.int .i64 3, .int .i64 5] 46)) ((Bel.refl _).alloc _)

  go_wp2_with (go_at_call 15; refine (long_any _ _ _ _).mono ?_; rintro e w' ⟨rfl, rfl⟩)
  refine (wMass_any A n c gs _ (hR1.bel (by (repeat (first | exact Bel.refl _ | assumption | refine Bel.drew ?_ | refine Bel.drewN ?_ _ | refine Bel.alloc ?_ _ | refine Bel.setCell ?_ (by first | omega | (simp; done) | (simp; omega) | (simp at *; omega)) _ | refine Bel.trans ?_ (by assumption))))) Hn.out hmax).mono ?_
  rintro e w2 ⟨rfl, hb2⟩
  clear c0 c1 c2 c3 c4
  obtain ⟨c0, c1, c2, c3, c4⟩ := Held1.out w2 (by (repeat (first | exact Bel.refl _ | assumption | refine Bel.drew ?_ | refine Bel.drewN ?_ _ | refine Bel.alloc ?_ _ | refine Bel.setCell ?_ (by first | omega | (simp; done) | (simp; omega) | (simp at *; omega)) _ | refine Bel.trans ?_ (by assumption))))
  go_wp2_with fail
  refine (validate_any A n c gs _ (hR1.bel (by (repeat (first | exact Bel.refl _ | assumption | refine Bel.drew ?_ | refine Bel.drewN ?_ _ | refine Bel.alloc ?_ _ | refine Bel.setCell ?_ (by first | omega | (simp; done) | (simp; omega) | (simp at *; omega)) _ | refine Bel.trans ?_ (by assumption))))) Hn.out hmax).mono ?_
  rintro e w3 ⟨rfl, hb3⟩
  go_wp2
  go_ret
  exact ⟨by simp, by (repeat (first | exact Bel.refl _ | assumption | refine Bel.drew ?_ | refine Bel.drewN ?_ _ | refine Bel.alloc ?_ _ | refine Bel.setCell ?_ (by first | omega | (simp; done) | (simp; omega) | (simp at *; omega)) _ | refine Bel.trans ?_ (by assumption)))⟩

end Go.Proofs.Ytmbhhooiaonhjaa.topWash
