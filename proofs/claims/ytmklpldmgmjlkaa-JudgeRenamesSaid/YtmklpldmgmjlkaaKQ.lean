/- Records: pick, walked. -/
import Derived.Test.YtmklpldmgmjlkaaKP
namespace Go.Proofs.Ytmklpldmgmjlkaa
open Go.RowKit

/-- Block B is the box of a question: two cells that may be stored to. -/
structure QB (w : World) (B a b : Nat) : Prop where
  lt : B < w.heap.size
  c0 : w.cell? ⟨B, 0, none⟩ = some (.int .i64 (a : Int))
  c1 : w.cell? ⟨B, 1, none⟩ = some (.int .i64 (b : Int))
  f0 : w.frozen? ⟨B, 0, none⟩ = false
  f1 : w.frozen? ⟨B, 1, none⟩ = false
section
variable {w w' : World} {B a b : Nat}
theorem QB.of_block (h : QB w B a b) (hs : w.heap.size ≤ w'.heap.size) (hb : w'.heap[B]? = w.heap[B]?) : QB w' B a b := by
  have hc : ∀ j, w'.cell? ⟨B, j, none⟩ = w.cell? ⟨B, j, none⟩ := fun j => World.cell?_of_block (w := w) (a := ⟨B, j, none⟩) hb
  have hf : ∀ j, w'.frozen? ⟨B, j, none⟩ = w.frozen? ⟨B, j, none⟩ := fun j => World.frozen?_of_block (w := w) (a := ⟨B, j, none⟩) hb
  exact ⟨Nat.lt_of_lt_of_le h.lt hs, (hc 0).trans h.c0, (hc 1).trans h.c1, (hf 0).trans h.f0, (hf 1).trans h.f1⟩
theorem QB.set0 (h : QB w B a b) {x : Int} {c : Nat} (hx : x = (c : Int)) : QB (w.setCell ⟨B, 0, none⟩ (.int .i64 x)) B c b := by
  subst hx
  exact ⟨by simpa [World.setCell] using h.lt, World.cell?_setCell_same _ _ _ h.c0, by rw [World.cell?_setCell_other _ _ _ _ (by simp)]; exact h.c1, by rw [World.frozen?_setCell]; exact h.f0, by rw [World.frozen?_setCell]; exact h.f1⟩
theorem QB.set1 (h : QB w B a b) {x : Int} {c : Nat} (hx : x = (c : Int)) : QB (w.setCell ⟨B, 1, none⟩ (.int .i64 x)) B a c := by
  subst hx
  exact ⟨by simpa [World.setCell] using h.lt, by rw [World.cell?_setCell_other _ _ _ _ (by simp)]; exact h.c0, World.cell?_setCell_same _ _ _ h.c1, by rw [World.frozen?_setCell]; exact h.f0, by rw [World.frozen?_setCell]; exact h.f1⟩
theorem QB.new (w : World) (a b : Nat) (c : Value) (t : TypeId) : QB (w.alloc (.cells #[.int .i64 (a : Int), .int .i64 (b : Int), c] t)) w.heap.size a b :=
  ⟨by simp, by go_simp, by go_simp, by go_simp, by go_simp⟩
theorem Own1.far {e base : Nat} {v : Value} {l : List Int} (h : Own1 e base w v l) {p : Addr} (hp : p.block < base) (u : Value) : Own1 e base (w.setCell p u) v l :=
  World.ownsRow.kept (row := some p.block) h ⟨rfl, rfl, rfl, by simp [World.setCell], fun k _ hne => Below.heap_setCell _ _ _ _ (fun e => hne (by rw [e]))⟩ (by
    cases hv : v.ownBlock with
    | none => exact .inl rfl
    | some k =>
      refine .inr (fun e => ?_)
      have := (World.ownsRow.lt h k hv).1
      injection e with e
      omega)
end
/-- All that pick's round needs. -/
structure PI (w wr : World) (b0 g : Nat) (L : List An) (x y k : Nat) (v : Value) (a b : Nat) (l : List Int) : Prop where
  eq : pk (cntI L) x y k = (a, b, l)
  bel : Bel w wr
  row : Row wr b0 g g (cntI L)
  box : QB wr w.heap.size a b
  own : Own1 3 (w.heap.size + 1) wr v l
  size : w.heap.size + 1 ≤ wr.heap.size

end Go.Proofs.Ytmklpldmgmjlkaa

