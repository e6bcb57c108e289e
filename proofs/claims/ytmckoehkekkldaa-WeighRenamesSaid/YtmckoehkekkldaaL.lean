/- Marks as values: times, list, answers. -/
import Derived.Test.YtmckoehkekkldaaK
namespace Go.Proofs.Ytmckoehkekkldaa
open Go.RowKit

/-- A mark as a value. -/
abbrev V3 (f : Nat → Int) : Value := .agg #[.int .i64 (f 0), .int .i64 (f 1), .int .i64 (f 2)]
theorem row3 (w : World) (f : Nat → Int) (t : TypeId) : Row (w.alloc (.cells #[.int .i64 (f 0), .int .i64 (f 1), .int .i64 (f 2)] t)) w.heap.size 3 3 f := by
  refine Row.whole _ _ _ _ _ fun i hi => ?_
  rcases (by omega : i = 0 ∨ i = 1 ∨ i = 2) with rfl | rfl | rfl <;> rfl
theorem Row.three {w : World} {g : Nat} {f : Nat → Int} (h : Row w g 3 3 f) : w.cell? ⟨g, 0, none⟩ = some (.int .i64 (f 0)) ∧ w.cell? ⟨g, 1, none⟩ = some (.int .i64 (f 1)) ∧ w.cell? ⟨g, 2, none⟩ = some (.int .i64 (f 2)) :=
  ⟨h.cells 0 (by omega), h.cells 1 (by omega), h.cells 2 (by omega)⟩
/-- A whole mark, stored. -/
abbrev put3 (w : World) (g : Nat) (f : Nat → Int) : World := ((w.setCell ⟨g, 0, none⟩ (.int .i64 (f 0))).setCell ⟨g, 1, none⟩ (.int .i64 (f 1))).setCell ⟨g, 2, none⟩ (.int .i64 (f 2))
theorem fill3 {w : World} {g : Nat} {h : Nat → Int} (f : Nat → Int) (hr : Row w g 3 3 h) : Row (put3 w g f) g 3 3 f := by
  refine (((hr.put (i := 0) (by omega) (f 0)).put (i := 1) (by omega) (f 1)).put (i := 2) (by omega) (f 2)).congr fun i hi => ?_
  rcases (by omega : i = 0 ∨ i = 1 ∨ i = 2) with rfl | rfl | rfl <;> simp
theorem far3 {w : World} {g g' m k : Nat} {h : Nat → Int} (f : Nat → Int) (hr : Row w g' m k h) (hne : g' ≠ g) : Row (put3 w g f) g' m k h :=
  ((hr.far (p := ⟨g, 0, none⟩) hne _).far (p := ⟨g, 1, none⟩) hne _).far (p := ⟨g, 2, none⟩) hne _
theorem bel3 {a w : World} {g : Nat} (f : Nat → Int) (h : Bel a w) (hg : a.heap.size ≤ g) : Bel a (put3 w g f) :=
  ((h.setCell (p := ⟨g, 0, none⟩) hg _).setCell (p := ⟨g, 1, none⟩) hg _).setCell (p := ⟨g, 2, none⟩) hg _
set_option maxRecDepth 100000 in
set_option maxHeartbeats 1000000 in
theorem times_any (f : Nat → Int) (v : Int) (w : World) (hf : ∀ i, f i = -1 ∨ f i = 0 ∨ f i = 1) (hv : v = 1 ∨ v = -1) : Calls Try.prog 109 #[V3 f, .int .i64 v] w fun e w' => e = .returned (V3 fun i => f i * v) ∧ Bel w w' := by
  have HF : Hid (∀ i, -1 ≤ f i * v ∧ f i * v ≤ 1) := by
    intro i
    rcases hf i with h | h | h <;> rcases hv with h2 | h2 <;> subst h2 <;> omega
  have hr1 := (row3 w f 78).alloc (.cells #[.int .i64 0, .int .i64 0, .int .i64 0] 78)
  have hr2 := row3 (w.alloc (.cells #[.int .i64 (f 0), .int .i64 (f 1), .int .i64 (f 2)] 78)) (fun _ => 0) 78
  rw [World.size_alloc] at hr2
  clear hf hv
  go_enter Try.func109, Try.ntmps109
  go_wp2
  go_loopw [5, 6] (fun _ i wr => ∃ k : Nat, k ≤ 3 ∧ i = .int .i64 k ∧ Bel w wr ∧ Row wr w.heap.size 3 3 (fun j => if j < k then f j * v else f j) ∧ Row wr (w.heap.size + 1) 3 3 (fun _ => 0)) (fun _ i _ => 3 - (intOf i).toNat)
  case atStart => exact ⟨0, by omega, rfl, by (repeat (first | exact Bel.refl _ | assumption | refine Bel.drew ?_ | refine Bel.drewN ?_ _ | refine Bel.alloc ?_ _ | refine Bel.setCell ?_ (by first | omega | (simp; done) | (simp; omega) | (simp at *; omega)) _ | refine Bel.trans ?_ (by assumption))), hr1.congr (fun i _ => by rw [if_neg (by omega)]), hr2⟩
  case round =>
    clear hr1 hr2
    obtain ⟨k, hk, rfl, hb, h1, h2⟩ := hrel
    by_cases hlt : k < 3
    · have hki : (k : Int) < 3 := by omega
      obtain ⟨f0, f9⟩ := HF.out k
      have hc := h1.cells k hlt
      rw [if_neg (Nat.lt_irrefl k)] at hc
      have hfz := h1.fz k
      have hl := h1.lt
      have HR1 := Lib.hid ((h1.put hlt (f k * v)).congr (f' := fun j => if j < k + 1 then f j * v else f j) (fun j _ => by
        by_cases e : j = k
        · subst e; rw [if_pos (by omega), if_pos rfl]
        · rw [if_neg e]
          by_cases e2 : j < k
          · rw [if_pos (by omega), if_pos e2]
          · rw [if_neg (by omega), if_neg e2]))
      have HR2 := Lib.hid (h2.far (p := ⟨w.heap.size, k, none⟩) (by simp) (.int .i64 (f k * v)))
      have hb2 := Lib.hid (show Bel w (wr.setCell ⟨w.heap.size, k, none⟩ (.int .i64 (f k * v))) by (repeat (first | exact Bel.refl _ | assumption | refine Bel.drew ?_ | refine Bel.drewN ?_ _ | refine Bel.alloc ?_ _ | refine Bel.setCell ?_ (by first | omega | (simp; done) | (simp; omega) | (simp at *; omega)) _ | refine Bel.trans ?_ (by assumption))))
      clear h1 h2
      go_wp2
      go_roundw
      case rel => exact ⟨k + 1, by omega, by go_num, hb2.out, HR1.out, HR2.out⟩
      case measure => simp [intOf]; omega
    · obtain rfl : k = 3 := by omega
      have h1' : Row wr w.heap.size 3 3 (fun j => f j * v) := h1.congr (fun j hj => by rw [if_pos hj])
      obtain ⟨c0, c1, c2⟩ := h1'.three
      obtain ⟨d0, d1, d2⟩ := h2.three
      have hz0 := h2.fz 0; have hz1 := h2.fz 1; have hz2 := h2.fz 2
      have hl2 := h2.lt
      have HQ := Lib.hid (fill3 (fun j => f j * v) h2)
      have HB := Lib.hid (bel3 (fun j => f j * v) hb (g := w.heap.size + 1) (by omega))
      clear h1 h1' h2
      go_wp2
      obtain ⟨e0, e1, e2⟩ := HQ.out.three
      exact bodyPost_ret (v := V3 fun j => f j * v) (by simp [results, Try.results109, go_sem, e0, e1, e2]) rfl ⟨rfl, HB.out⟩
theorem blank_any (w : World) : Calls Try.prog 91 #[] w fun e w' => e = .returned (V3 fun _ => 0) ∧ Bel w w' := by
  go_enter Try.func91, Try.ntmps91
  go_wp2
  refine bodyPost_ret (v := V3 fun _ => 0) (by simp [results, Try.results91, go_sem]) rfl ⟨rfl, by (repeat (first | exact Bel.refl _ | assumption | refine Bel.drew ?_ | refine Bel.drewN ?_ _ | refine Bel.alloc ?_ _ | refine Bel.setCell ?_ (by first | omega | (simp; done) | (simp; omega) | (simp at *; omega)) _ | refine Bel.trans ?_ (by assumption)))⟩
end Go.Proofs.Ytmckoehkekkldaa
