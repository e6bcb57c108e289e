/- The document's table, walked. -/
import Derived.Test.YtmklpldmgmjlkaaJK
import Derived.BigRegion
import Derived.RegionTactic
namespace Go.Proofs.Ytmklpldmgmjlkaa
open Go.RowKit

theorem Tab.made (w : World) (C : Array Value) (t : TypeId) (F : Nat → Nat → Bool) (hC : ∀ a b, a < 33 → b < 33 → C[a * 33 + b]? = some (.bool (F a b))) : Tab (w.alloc (.cells C t)) w.heap.size F :=
  ⟨by simp, fun i => by simp, fun a b ha hb => by rw [World.cell?_alloc_new]; exact hC a b ha hb⟩
/-- All that is kept while the next table is made. -/
structure St (w wr : World) (G n k : Nat) (F : Nat → Nat → Bool) : Prop where
  bel : Bel w wr
  t4 : Tab wr w.heap.size (fun _ _ => false)
  t5 : Tab wr (w.heap.size + 1) (tF n k)
  t7 : Tab wr G F
  lt : w.heap.size + 1 < G
theorem St.congr {w wr : World} {G n k : Nat} {F F' : Nat → Nat → Bool} (h : St w wr G n k F) (e : ∀ a b, F' a b = F a b) : St w wr G n k F' := ⟨h.bel, h.t4, h.t5, h.t7.congr fun a b _ _ => e a b, h.lt⟩
theorem St.drewN {w wr : World} {G n k : Nat} {F : Nat → Nat → Bool} (h : St w wr G n k F) (m : Nat) : St w (wr.drewN m) G n k F :=
  ⟨h.bel.drewN m, h.t4.bel ((Bel.refl _).drewN m), h.t5.bel ((Bel.refl _).drewN m), h.t7.bel ((Bel.refl _).drewN m), h.lt⟩
theorem St.put {w wr : World} {G n k i j x : Nat} {v u : Bool} (h : St w wr G n k (vF n k i j v)) (hi : i < 33) (hj : j < 33) (hx : x = i * 33 + j) : St w (wr.setCell ⟨G, x, none⟩ (.bool u)) G n k (vF n k i j u) := by
  have hl := h.lt
  exact ⟨h.bel.setCell (by show w.heap.size ≤ G; omega) _, h.t4.far (by show w.heap.size ≠ G; omega) _, h.t5.far (by show w.heap.size + 1 ≠ G; omega) _, (h.t7.put hi hj hx u).congr fun a b _ _ => vF_put n k i j v u a b, hl⟩

end Go.Proofs.Ytmklpldmgmjlkaa

