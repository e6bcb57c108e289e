/- Grade and State: the document's and the program's. -/
import Derived.Test.YtmklpldmgmjlkaaKL
namespace Go.Proofs.Ytmklpldmgmjlkaa
open Go.RowKit

/-- How many grades have no answer against them, or at most one. -/
def zA (L : List An) (g : Nat) : Nat := (leftL L g 0).length
def zB (L : List An) (g : Nat) : Nat := (leftL L g 1).length
theorem zA_snoc (L : List An) (k : Nat) : zA L (k + 1) = zA L k + if cntI L k ≤ 0 then 1 else 0 := by
  unfold zA
  rw [leftL_snoc, List.length_append]
  split <;> rfl
theorem zB_snoc (L : List An) (k : Nat) : zB L (k + 1) = zB L k + if cntI L k ≤ 1 then 1 else 0 := by
  unfold zB
  rw [leftL_snoc, List.length_append]
  split <;> rfl
theorem z_bd (L : List An) (k : Nat) : zA L k ≤ zB L k ∧ zB L k ≤ k := by
  induction k with
  | zero => exact ⟨Nat.le_refl _, Nat.le_refl _⟩
  | succ k ih =>
    rw [zA_snoc, zB_snoc]
    split <;> split <;> omega
/-- While the state is counted. -/
structure StC (w wr : World) (a d : Int) : Prop where
  bel : Bel w wr
  sz : w.heap.size + 1 < wr.heap.size
  c0 : wr.cell? ⟨w.heap.size + 1, 0, none⟩ = some (.int .i64 a)
  c1 : wr.cell? ⟨w.heap.size + 1, 1, none⟩ = some (.int .i64 d)
  f0 : wr.frozen? ⟨w.heap.size + 1, 0, none⟩ = false
  f1 : wr.frozen? ⟨w.heap.size + 1, 1, none⟩ = false
  r0 : wr.cell? ⟨w.heap.size, 0, none⟩ = some (.int .i64 0)
  r1 : wr.cell? ⟨w.heap.size, 1, none⟩ = some (.int .i64 0)
  f2 : wr.frozen? ⟨w.heap.size, 0, none⟩ = false
  f3 : wr.frozen? ⟨w.heap.size, 1, none⟩ = false
theorem StC.set0 {w wr : World} {a d : Int} (h : StC w wr a d) (x : Int) : StC w (wr.setCell ⟨w.heap.size + 1, 0, none⟩ (.int .i64 x)) x d := by
  refine ⟨h.bel.setCell (by simp) _, by simpa [World.setCell] using h.sz, World.cell?_setCell_same _ _ _ h.c0, ?_, ?_, ?_, ?_, ?_, ?_, ?_⟩
  · rw [World.cell?_setCell_other _ _ _ _ (by simp)]; exact h.c1
  · rw [World.frozen?_setCell]; exact h.f0
  · rw [World.frozen?_setCell]; exact h.f1
  · rw [World.cell?_setCell_other _ _ _ _ (by simp)]; exact h.r0
  · rw [World.cell?_setCell_other _ _ _ _ (by simp)]; exact h.r1
  · rw [World.frozen?_setCell]; exact h.f2
  · rw [World.frozen?_setCell]; exact h.f3
theorem StC.set1 {w wr : World} {a d : Int} (h : StC w wr a d) (x : Int) : StC w (wr.setCell ⟨w.heap.size + 1, 1, none⟩ (.int .i64 x)) a x := by
  refine ⟨h.bel.setCell (by simp) _, by simpa [World.setCell] using h.sz, ?_, World.cell?_setCell_same _ _ _ h.c1, ?_, ?_, ?_, ?_, ?_, ?_⟩
  · rw [World.cell?_setCell_other _ _ _ _ (by simp)]; exact h.c0
  · rw [World.frozen?_setCell]; exact h.f0
  · rw [World.frozen?_setCell]; exact h.f1
  · rw [World.cell?_setCell_other _ _ _ _ (by simp)]; exact h.r0
  · rw [World.cell?_setCell_other _ _ _ _ (by simp)]; exact h.r1
  · rw [World.frozen?_setCell]; exact h.f2
  · rw [World.frozen?_setCell]; exact h.f3
theorem stored2 {w : World} {g : Nat} {a b x y : Value} (h0 : w.cell? ⟨g, 0, none⟩ = some a) (h1 : w.cell? ⟨g, 1, none⟩ = some b) :
    (w.setCell ⟨g, 0, none⟩ x).cell? ⟨g, 0, none⟩ = some x ∧ ((w.setCell ⟨g, 0, none⟩ x).setCell ⟨g, 1, none⟩ y).cell? ⟨g, 1, none⟩ = some y := by
  refine ⟨World.cell?_setCell_same _ _ _ h0, World.cell?_setCell_same _ _ _ (u := b) ?_⟩
  rw [World.cell?_setCell_other _ _ _ _ (by simp)]; exact h1
def dI (L : List An) (k : Nat) : Int := ((zB L k : Nat) : Int) - ((zA L k : Nat) : Int)

end Go.Proofs.Ytmklpldmgmjlkaa

