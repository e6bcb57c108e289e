/- Lines of six numbers. -/
import Derived.Test.YtfjegdejfccgaaaY
namespace Go.Proofs.Ytfjegdejfccgaaa
open Go.RowKit

/-- A line as a value. -/
abbrev V6 (f : Nat → Int) : Value := .agg #[.int .i64 (f 0), .int .i64 (f 1), .int .i64 (f 2), .int .i64 (f 3), .int .i64 (f 4), .int .i64 (f 5)]
theorem row6 (w : World) (f : Nat → Int) (t : TypeId) : Row (w.alloc (.cells #[.int .i64 (f 0), .int .i64 (f 1), .int .i64 (f 2), .int .i64 (f 3), .int .i64 (f 4), .int .i64 (f 5)] t)) w.heap.size 6 6 f := by
  refine Row.whole _ _ _ _ _ fun i hi => ?_
  rcases (by omega : i = 0 ∨ i = 1 ∨ i = 2 ∨ i = 3 ∨ i = 4 ∨ i = 5) with rfl | rfl | rfl | rfl | rfl | rfl <;> rfl
theorem Row.six {w : World} {g : Nat} {f : Nat → Int} (h : Row w g 6 6 f) : w.cell? ⟨g, 0, none⟩ = some (.int .i64 (f 0)) ∧ w.cell? ⟨g, 1, none⟩ = some (.int .i64 (f 1)) ∧ w.cell? ⟨g, 2, none⟩ = some (.int .i64 (f 2)) ∧ w.cell? ⟨g, 3, none⟩ = some (.int .i64 (f 3)) ∧ w.cell? ⟨g, 4, none⟩ = some (.int .i64 (f 4)) ∧ w.cell? ⟨g, 5, none⟩ = some (.int .i64 (f 5)) :=
  ⟨h.cells 0 (by omega), h.cells 1 (by omega), h.cells 2 (by omega), h.cells 3 (by omega), h.cells 4 (by omega), h.cells 5 (by omega)⟩
/-- A whole line, stored. -/
abbrev put6 (w : World) (g : Nat) (f : Nat → Int) : World := (((((w.setCell ⟨g, 0, none⟩ (.int .i64 (f 0))).setCell ⟨g, 1, none⟩ (.int .i64 (f 1))).setCell ⟨g, 2, none⟩ (.int .i64 (f 2))).setCell ⟨g, 3, none⟩ (.int .i64 (f 3))).setCell ⟨g, 4, none⟩ (.int .i64 (f 4))).setCell ⟨g, 5, none⟩ (.int .i64 (f 5))
theorem fill6 {w : World} {g : Nat} {h : Nat → Int} (f : Nat → Int) (hr : Row w g 6 6 h) : Row (put6 w g f) g 6 6 f := by
  refine ((((((hr.put (i := 0) (by omega) (f 0)).put (i := 1) (by omega) (f 1)).put (i := 2) (by omega) (f 2)).put (i := 3) (by omega) (f 3)).put (i := 4) (by omega) (f 4)).put (i := 5) (by omega) (f 5)).congr fun i hi => ?_
  rcases (by omega : i = 0 ∨ i = 1 ∨ i = 2 ∨ i = 3 ∨ i = 4 ∨ i = 5) with rfl | rfl | rfl | rfl | rfl | rfl <;> simp
theorem far6 {w : World} {g g' : Nat} {h : Nat → Int} (f : Nat → Int) (hr : Row w g' 6 6 h) (hne : g' ≠ g) : Row (put6 w g f) g' 6 6 h :=
  (((((hr.far (p := ⟨g, 0, none⟩) hne _).far (p := ⟨g, 1, none⟩) hne _).far (p := ⟨g, 2, none⟩) hne _).far (p := ⟨g, 3, none⟩) hne _).far (p := ⟨g, 4, none⟩) hne _).far (p := ⟨g, 5, none⟩) hne _
theorem bel6 {a w : World} {g : Nat} (f : Nat → Int) (h : Bel a w) (hg : a.heap.size ≤ g) : Bel a (put6 w g f) :=
  (((((h.setCell (p := ⟨g, 0, none⟩) hg _).setCell (p := ⟨g, 1, none⟩) hg _).setCell (p := ⟨g, 2, none⟩) hg _).setCell (p := ⟨g, 3, none⟩) hg _).setCell (p := ⟨g, 4, none⟩) hg _).setCell (p := ⟨g, 5, none⟩) hg _
def unitF (c : Nat) (j : Nat) : Int := if j = c then 1 else 0
set_option maxRecDepth 100000 in
theorem unit_any (c : Nat) (w : World) (hc : c < 6) : Calls Try.prog 100 #[.int .i64 (c : Int)] w fun e w' => e = .returned (V6 (unitF c)) ∧ Bel w w' := by
  rcases (by omega : c = 0 ∨ c = 1 ∨ c = 2 ∨ c = 3 ∨ c = 4 ∨ c = 5) with rfl | rfl | rfl | rfl | rfl | rfl <;>
  (go_enter Try.func100, Try.ntmps100
   go_wp2
   refine bodyPost_ret (v := V6 (unitF _)) (by simp [results, Try.results100, go_sem, unitF]) rfl ⟨rfl, by (repeat (first | exact Bel.refl _ | assumption | refine Bel.drew ?_ | refine Bel.drewN ?_ _ | refine Bel.alloc ?_ _ | refine Bel.setCell ?_ (by first | omega | (simp; done) | (simp; omega) | (simp at *; omega)) _ | refine Bel.trans ?_ (by assumption)))⟩)
/-- What is there behind a line that is stored. -/
theorem Row.zero (w : World) (t : TypeId) : Row (w.alloc (.cells #[.int .i64 0, .int .i64 0, .int .i64 0, .int .i64 0, .int .i64 0, .int .i64 0] t)) w.heap.size 6 6 (fun _ => 0) := row6 w (fun _ => 0) t
set_option maxRecDepth 100000 in
set_option maxHeartbeats 1000000 in
theorem opposite_any (f : Nat → Int) (w : World) (hf : ∀ i, i < 6 → -1000000000000 ≤ f i ∧ f i ≤ 1000000000000) : Calls Try.prog 119 #[V6 f] w fun e w' => e = .returned (V6 fun i => -f i) ∧ Bel w w' := by
  have HF := Lib.hid hf
  have hr1 := (row6 w f 79).alloc (.cells #[.int .i64 0, .int .i64 0, .int .i64 0, .int .i64 0, .int .i64 0, .int .i64 0] 79)
  have hr2 := Row.zero (w.alloc (.cells #[.int .i64 (f 0), .int .i64 (f 1), .int .i64 (f 2), .int .i64 (f 3), .int .i64 (f 4), .int .i64 (f 5)] 79)) 79
  rw [World.size_alloc] at hr2
  clear hf
  go_enter Try.func119, Try.ntmps119
  go_wp2
  go_loopw [4] (fun i wr => ∃ k : Nat, k ≤ 6 ∧ i = .int .i64 k ∧ Bel w wr ∧ Row wr w.heap.size 6 6 (fun j => if j < k then -f j else f j) ∧ Row wr (w.heap.size + 1) 6 6 (fun _ => 0)) (fun i _ => 6 - (intOf i).toNat)
  case atStart => exact ⟨0, by omega, rfl, by (repeat (first | exact Bel.refl _ | assumption | refine Bel.drew ?_ | refine Bel.drewN ?_ _ | refine Bel.alloc ?_ _ | refine Bel.setCell ?_ (by first | omega | (simp; done) | (simp; omega) | (simp at *; omega)) _ | refine Bel.trans ?_ (by assumption))), hr1.congr (fun i _ => by rw [if_neg (by omega)]), hr2⟩
  case round =>
    clear hr1 hr2
    obtain ⟨k, hk, rfl, hb, h1, h2⟩ := hrel
    by_cases hlt : k < 6
    · have hki : (k : Int) < 6 := by omega
      obtain ⟨f0, f9⟩ := HF.out k hlt
      have hc := h1.cells k hlt
      rw [if_neg (Nat.lt_irrefl k)] at hc
      have hfz := h1.fz k
      have hl := h1.lt
      have HR1 := Lib.hid ((h1.put hlt (-(f k))).congr (f' := fun j => if j < k + 1 then -f j else f j) (fun j _ => by
        by_cases e : j = k
        · subst e; rw [if_pos (by omega), if_pos rfl]
        · rw [if_neg e]
          by_cases e2 : j < k
          · rw [if_pos (by omega), if_pos e2]
          · rw [if_neg (by omega), if_neg e2]))
      have HR2 := Lib.hid (h2.far (p := ⟨w.heap.size, k, none⟩) (by simp) (.int .i64 (-(f k))))
      have hb2 := Lib.hid (show Bel w (wr.setCell ⟨w.heap.size, k, none⟩ (.int .i64 (-(f k)))) by (repeat (first | exact Bel.refl _ | assumption | refine Bel.drew ?_ | refine Bel.drewN ?_ _ | refine Bel.alloc ?_ _ | refine Bel.setCell ?_ (by first | omega | (simp; done) | (simp; omega) | (simp at *; omega)) _ | refine Bel.trans ?_ (by assumption))))
      clear h1 h2
      go_wp2
      go_roundw
      case rel => exact ⟨k + 1, by omega, by go_num, hb2.out, HR1.out, HR2.out⟩
      case measure => simp [intOf]; omega
    · obtain rfl : k = 6 := by omega
      have h1' : Row wr w.heap.size 6 6 (fun j => -f j) := h1.congr (fun j hj => by rw [if_pos hj])
      obtain ⟨c0, c1, c2, c3, c4, c5⟩ := h1'.six
      obtain ⟨d0, d1, d2, d3, d4, d5⟩ := h2.six
      have hz0 := h2.fz 0; have hz1 := h2.fz 1; have hz2 := h2.fz 2; have hz3 := h2.fz 3; have hz4 := h2.fz 4; have hz5 := h2.fz 5
      have hl2 := h2.lt
      have HQ := Lib.hid (fill6 (fun j => -f j) h2)
      have HB := Lib.hid (bel6 (fun j => -f j) hb (g := w.heap.size + 1) (by omega))
      clear h1 h1' h2
      go_wp2
      obtain ⟨e0, e1, e2, e3, e4, e5⟩ := HQ.out.six
      exact bodyPost_ret (v := V6 fun j => -f j) (by simp [results, Try.results119, go_sem, e0, e1, e2, e3, e4, e5]) rfl ⟨rfl, HB.out⟩
end Go.Proofs.Ytfjegdejfccgaaa
