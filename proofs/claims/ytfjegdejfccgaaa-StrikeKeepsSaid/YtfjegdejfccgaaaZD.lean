/- Slices of lines: the closure, IndexFunc, exchange. -/
import Derived.Test.YtfjegdejfccgaaaZC
namespace Go.Proofs.Ytfjegdejfccgaaa
open Go.RowKit

/-- Block g has the lines F, m of them; none of its cells is frozen. -/
structure Mat (w : World) (g m : Nat) (F : Nat → Nat → Int) : Prop where
  lt : g < w.heap.size
  fz : ∀ i, w.frozen? ⟨g, i, none⟩ = false
  cells : ∀ j i, j < m → i < 6 → w.cell? ⟨g, j * 6 + i, none⟩ = some (.int .i64 (F j i))
theorem Mat.of_block {w w' : World} {g m : Nat} {F : Nat → Nat → Int} (h : Mat w g m F) (hs : w.heap.size ≤ w'.heap.size) (hb : w'.heap[g]? = w.heap[g]?) : Mat w' g m F :=
  ⟨Nat.lt_of_lt_of_le h.lt hs, fun i => (World.frozen?_of_block (w := w) (a := ⟨g, i, none⟩) hb).trans (h.fz i), fun j i hj hi => (World.cell?_of_block (w := w) (a := ⟨g, j * 6 + i, none⟩) hb).trans (h.cells j i hj hi)⟩
theorem Mat.bel {w w' : World} {g m : Nat} {F : Nat → Nat → Int} (h : Mat w g m F) (hb : Bel w w') : Mat w' g m F := h.of_block hb.size (hb.block g h.lt)
theorem Mat.far {w : World} {g m : Nat} {F : Nat → Nat → Int} (h : Mat w g m F) {p : Addr} (hp : g ≠ p.block) (u : Value) : Mat (w.setCell p u) g m F :=
  h.of_block (by simp [World.setCell]) (Below.heap_setCell _ _ _ _ hp)
theorem Mat.congr {w : World} {g m : Nat} {F G : Nat → Nat → Int} (h : Mat w g m F) (e : ∀ j i, j < m → i < 6 → G j i = F j i) : Mat w g m G :=
  ⟨h.lt, h.fz, fun j i hj hi => by rw [e j i hj hi]; exact h.cells j i hj hi⟩
/-- The cells of a line. -/
theorem Mat.six {w : World} {g m : Nat} {F : Nat → Nat → Int} (h : Mat w g m F) {j : Nat} (hj : j < m) : w.cell? ⟨g, j * 6, none⟩ = some (.int .i64 (F j 0)) ∧ w.cell? ⟨g, j * 6 + 1, none⟩ = some (.int .i64 (F j 1)) ∧ w.cell? ⟨g, j * 6 + 2, none⟩ = some (.int .i64 (F j 2)) ∧ w.cell? ⟨g, j * 6 + 3, none⟩ = some (.int .i64 (F j 3)) ∧ w.cell? ⟨g, j * 6 + 4, none⟩ = some (.int .i64 (F j 4)) ∧ w.cell? ⟨g, j * 6 + 5, none⟩ = some (.int .i64 (F j 5)) :=
  ⟨h.cells j 0 hj (by omega), h.cells j 1 hj (by omega), h.cells j 2 hj (by omega), h.cells j 3 hj (by omega), h.cells j 4 hj (by omega), h.cells j 5 hj (by omega)⟩
theorem Mat.put {w : World} {g m : Nat} {F : Nat → Nat → Int} (h : Mat w g m F) {j i : Nat} (hj : j < m) (hi : i < 6) (x : Int) : Mat (w.setCell ⟨g, j * 6 + i, none⟩ (.int .i64 x)) g m (fun a b => if a = j ∧ b = i then x else F a b) := by
  refine ⟨by simpa [World.setCell] using h.lt, fun j => by rw [World.frozen?_setCell]; exact h.fz j, fun a b ha hb => ?_⟩
  by_cases e : a = j ∧ b = i
  · obtain ⟨rfl, rfl⟩ := e
    rw [if_pos ⟨rfl, rfl⟩]
    exact World.cell?_setCell_same _ _ _ (h.cells a b ha hb)
  · rw [if_neg e, World.cell?_setCell_other _ _ _ _ (by simp <;> omega)]
    exact h.cells a b ha hb
/-- A line, stored at a number. -/
abbrev putL (w : World) (g j : Nat) (f : Nat → Int) : World := (((((w.setCell ⟨g, j * 6, none⟩ (.int .i64 (f 0))).setCell ⟨g, j * 6 + 1, none⟩ (.int .i64 (f 1))).setCell ⟨g, j * 6 + 2, none⟩ (.int .i64 (f 2))).setCell ⟨g, j * 6 + 3, none⟩ (.int .i64 (f 3))).setCell ⟨g, j * 6 + 4, none⟩ (.int .i64 (f 4))).setCell ⟨g, j * 6 + 5, none⟩ (.int .i64 (f 5))
theorem Mat.line {w : World} {g m : Nat} {F : Nat → Nat → Int} (h : Mat w g m F) {j : Nat} (hj : j < m) (f : Nat → Int) : Mat (putL w g j f) g m (fun a => if a = j then f else F a) := by
  refine ((((((h.put hj (i := 0) (by omega) (f 0)).put hj (i := 1) (by omega) (f 1)).put hj (i := 2) (by omega) (f 2)).put hj (i := 3) (by omega) (f 3)).put hj (i := 4) (by omega) (f 4)).put hj (i := 5) (by omega) (f 5)).congr fun a i ha hi => ?_
  by_cases e : a = j
  · subst e
    rcases (by omega : i = 0 ∨ i = 1 ∨ i = 2 ∨ i = 3 ∨ i = 4 ∨ i = 5) with rfl | rfl | rfl | rfl | rfl | rfl <;> simp
  · simp [e]
theorem belL {a w : World} {g : Nat} (j : Nat) (f : Nat → Int) (h : Bel a w) (hg : a.heap.size ≤ g) : Bel a (putL w g j f) :=
  (((((h.setCell (p := ⟨g, j * 6, none⟩) hg _).setCell (p := ⟨g, j * 6 + 1, none⟩) hg _).setCell (p := ⟨g, j * 6 + 2, none⟩) hg _).setCell (p := ⟨g, j * 6 + 3, none⟩) hg _).setCell (p := ⟨g, j * 6 + 4, none⟩) hg _).setCell (p := ⟨g, j * 6 + 5, none⟩) hg _
theorem has_any (f : Nat → Int) (b c : Nat) (w : World) (hc : c < 6) (hb : b < w.heap.size) (hcell : w.cell? ⟨b, 0, none⟩ = some (.int .i64 (c : Int))) :
    Calls Try.prog 122 #[V6 f, .pointer (some ⟨b, 0, none⟩)] w fun e w' => e = .returned (.bool (f c != 0)) ∧ Bel w w' := by
  have hci : (c : Int) < 6 := by omega
  have h1 := (row6 w f 79).cells c hc
  have h2 : (w.alloc (.cells #[.int .i64 (f 0), .int .i64 (f 1), .int .i64 (f 2), .int .i64 (f 3), .int .i64 (f 4), .int .i64 (f 5)] 79)).cell? ⟨b, 0, none⟩ = some (.int .i64 (c : Int)) := by rw [((Bel.refl w).alloc _).use.1 _ _ hb]; exact hcell
  clear hcell
  go_enter Try.func122, Try.ntmps122
  go_wp2
  go_ret
  exact ⟨rfl, by (repeat (first | exact Bel.refl _ | assumption | refine Bel.drew ?_ | refine Bel.drewN ?_ _ | refine Bel.alloc ?_ _ | refine Bel.setCell ?_ (by first | omega | (simp; done) | (simp; omega) | (simp at *; omega)) _ | refine Bel.trans ?_ (by assumption)))⟩
/-- The first line from a number on that has a number in a column. -/
def findB (F : Nat → Nat → Int) (c r : Nat) : Nat → Int
  | 0 => -1
  | k + 1 => if findB F c r k ≠ -1 then findB F c r k else if F (r + k) c = 0 then -1 else (k : Int)
theorem findB_no {F : Nat → Nat → Int} {c r k : Nat} (h : ∀ j, j < k → F (r + j) c = 0) : findB F c r k = -1 := by
  induction k with
  | zero => rfl
  | succ k ih =>
    have h1 := ih fun j hj => h j (by omega)
    simp only [findB]
    rw [h1, if_neg (by simp), if_pos (h k (by omega))]
theorem findB_yes {F : Nat → Nat → Int} {c r q : Nat} (h : ∀ j, j < q → F (r + j) c = 0) (hq : F (r + q) c ≠ 0) : ∀ k, q < k → findB F c r k = (q : Int)
  | 0, hk => by omega
  | k + 1, hk => by
    simp only [findB]
    by_cases e : q = k
    · subst e
      rw [findB_no h, if_neg (by simp), if_neg hq]
    · have := findB_yes h hq k (by omega)
      rw [this, if_pos (by omega)]
set_option maxRecDepth 100000 in
set_option maxHeartbeats 1000000 in
theorem indexFunc_any (g m r n c' b c : Nat) (F : Nat → Nat → Int) (w : World) (hM : Mat w g m F) (hn : r + n ≤ m) (hm : m ≤ 20) (hc : c < 6) (hb : b < w.heap.size) (hcell : w.cell? ⟨b, 0, none⟩ = some (.int .i64 (c : Int))) :
    Calls Try.prog 93 #[.slice (some ⟨g, r * 6, none⟩) n c', .func (Fn.func 122) #[] #[.pointer (some ⟨b, 0, none⟩)]] w fun e w' => e = .returned (.int .i64 (findB F c r n)) ∧ Bel w w' := by
  have hni : (n : Int) ≤ 20 := by omega
  go_enter Try.func93, Try.ntmps93
  go_wp2
  go_loopw [8] (fun i wr => ∃ k : Nat, k ≤ n ∧ i = .int .i64 k ∧ Bel w wr ∧ ∀ j, j < k → F (r + j) c = 0) (fun i _ => n - (intOf i).toNat)
  case atStart => exact ⟨0, Nat.zero_le _, rfl, Bel.refl _, fun j hj => by omega⟩
  case round =>
    obtain ⟨k, hk, rfl, hbr, hz⟩ := hrel
    have HZ := Lib.hid hz
    clear hz
    by_cases hlt : k < n
    · have hki : (k : Int) < (n : Int) := by omega
      obtain ⟨c0, c1, c2, c3, c4, c5⟩ := (hM.bel hbr).six (j := r + k) (by omega)
      rw [Nat.add_mul] at c0 c1 c2 c3 c4 c5
      have hcc : wr.cell? ⟨b, 0, none⟩ = some (.int .i64 (c : Int)) := by rw [hbr.use.1 _ _ hb]; exact hcell
      go_wp2_with fail
      refine (has_any (F (r + k)) b c _ hc (Nat.lt_of_lt_of_le hb hbr.size) hcc).mono ?_
      rintro e w1 ⟨rfl, hb1⟩
      clear c0 c1 c2 c3 c4 c5 hcc
      by_cases hq : F (r + k) c = 0
      · have hq2 : (F (r + k) c != 0) = false := by simpa using hq
        rw [hq2]
        have HQ := Lib.hid hq
        clear hq hq2
        go_wp2
        go_roundw
        case rel => exact ⟨k + 1, by omega, by go_num, hbr.trans hb1, fun j hj => by
          rcases (by omega : j < k ∨ j = k) with h | rfl
          · exact HZ.out j h
          · exact HQ.out⟩
        case measure => simp [intOf]; omega
      · have hq2 : (F (r + k) c != 0) = true := by simpa using hq
        rw [hq2]
        have HF := Lib.hid (findB_yes HZ.out hq n hlt)
        clear hq hq2
        go_wp2
        go_ret
        exact ⟨ret_int HF.out.symm, hbr.trans hb1⟩
    · obtain rfl : k = n := by omega
      have HF := Lib.hid (findB_no HZ.out)
      go_wp2
      go_ret
      exact ⟨ret_int HF.out.symm, hbr⟩
end Go.Proofs.Ytfjegdejfccgaaa
