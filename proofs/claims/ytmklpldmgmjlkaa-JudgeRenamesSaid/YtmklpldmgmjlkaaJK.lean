/- The document's table: for which states so many questions are enough. -/
import Derived.Test.YtmklpldmgmjlkaaJJ
import Derived.Deep.MidRow
import Derived.Great.Walk
namespace Go.Proofs.Ytmklpldmgmjlkaa
open Go.RowKit

section
variable {w w' : World}
theorem setCells_heap (b : Nat) : ∀ (vs : List Value) (o : Nat) (w : World), (w.setCells b o vs).heap.size = w.heap.size ∧ (∀ k, k ≠ b → (w.setCells b o vs).heap[k]? = w.heap[k]?) ∧ (w.setCells b o vs).os = w.os ∧ (w.setCells b o vs).tape = w.tape ∧ (w.setCells b o vs).output = w.output
  | [], _, _ => ⟨rfl, fun _ _ => rfl, rfl, rfl, rfl⟩
  | v :: r, o, w => by
    obtain ⟨h1, h2, h3, h4, h5⟩ := setCells_heap b r (o + 1) (w.setCell ⟨b, o, none⟩ v)
    exact ⟨h1.trans (by simp [World.setCell]), fun k hk => (h2 k hk).trans (Below.heap_setCell _ _ _ _ hk), h3, h4, h5⟩
theorem Bel.setCells {a : World} (h : Bel a w) {b : Nat} (hb : a.heap.size ≤ b) (o : Nat) (vs : List Value) : Bel a (w.setCells b o vs) := by
  obtain ⟨h1, h2, h3, h4, h5⟩ := setCells_heap b vs o w
  exact ⟨h3.trans h.os, h4.trans h.tape, h5.trans h.output, by rw [h1]; exact h.size, fun k hk => (h2 k (by omega)).trans (h.block k hk)⟩
end
/-- Block g holds the table F, of 33 rows of 33. -/
structure Tab (w : World) (g : Nat) (F : Nat → Nat → Bool) : Prop where
  lt : g < w.heap.size
  fz : ∀ i, w.frozen? ⟨g, i, none⟩ = false
  cells : ∀ a b, a < 33 → b < 33 → w.cell? ⟨g, a * 33 + b, none⟩ = some (.bool (F a b))
section
variable {w w' : World} {g : Nat} {F G : Nat → Nat → Bool}
theorem Tab.of_block (h : Tab w g F) (hs : w.heap.size ≤ w'.heap.size) (hb : w'.heap[g]? = w.heap[g]?) : Tab w' g F := by
  have hc : ∀ j, w'.cell? ⟨g, j, none⟩ = w.cell? ⟨g, j, none⟩ := fun j => World.cell?_of_block (w := w) (a := ⟨g, j, none⟩) hb
  have hf : ∀ j, w'.frozen? ⟨g, j, none⟩ = w.frozen? ⟨g, j, none⟩ := fun j => World.frozen?_of_block (w := w) (a := ⟨g, j, none⟩) hb
  exact ⟨Nat.lt_of_lt_of_le h.lt hs, fun i => (hf i).trans (h.fz i), fun a b ha hb => by rw [hc]; exact h.cells a b ha hb⟩
theorem Tab.bel (h : Tab w g F) (hb : Bel w w') : Tab w' g F := h.of_block hb.size (hb.block g h.lt)
theorem Tab.far (h : Tab w g F) {p : Addr} (hp : g ≠ p.block) (u : Value) : Tab (w.setCell p u) g F :=
  h.of_block (by simp [World.setCell]) (Below.heap_setCell _ _ _ _ hp)
theorem Tab.congr (h : Tab w g F) (e : ∀ a b, a < 33 → b < 33 → G a b = F a b) : Tab w g G :=
  ⟨h.lt, h.fz, fun a b ha hb => by rw [e a b ha hb]; exact h.cells a b ha hb⟩
theorem Tab.put (h : Tab w g F) {a b i : Nat} (ha : a < 33) (hb : b < 33) (hi : i = a * 33 + b) (v : Bool) : Tab (w.setCell ⟨g, i, none⟩ (.bool v)) g (fun c d => if c = a ∧ d = b then v else F c d) := by
  subst hi
  refine ⟨by simpa [World.setCell] using h.lt, fun j => by rw [World.frozen?_setCell]; exact h.fz j, fun c d hc hd => ?_⟩
  by_cases e : c = a ∧ d = b
  · obtain ⟨rfl, rfl⟩ := e
    rw [if_pos ⟨rfl, rfl⟩]
    exact World.cell?_setCell_same _ _ _ (h.cells c d hc hd)
  · rw [if_neg e, World.cell?_setCell_other _ _ _ _ (by simp <;> omega)]
    exact h.cells c d hc hd
end
def tabL (F : Nat → Nat → Bool) : List Value := (List.range 1089).map fun k => .bool (F (k / 33) (k % 33))
theorem tabL_length (F : Nat → Nat → Bool) : (tabL F).length = 1089 := by simp [tabL]
theorem tabL_at (F : Nat → Nat → Bool) {k : Nat} (hk : k < 1089) : (tabL F)[k]? = some (.bool (F (k / 33) (k % 33))) := by simp [tabL, hk]
theorem tabL_one (F : Nat → Nat → Bool) : ∀ v ∈ tabL F, v.oneCell' = true := by
  intro v hv
  obtain ⟨i, _, rfl⟩ := List.mem_map.1 hv
  rfl
section
variable {w w' : World} {g : Nat} {F G : Nat → Nat → Bool}
theorem Tab.at_ (h : Tab w g F) {k : Nat} (hk : k < 1089) : w.cell? ⟨g, k, none⟩ = some (.bool (F (k / 33) (k % 33))) := by
  have := h.cells (k / 33) (k % 33) (by omega) (by omega)
  rwa [show k / 33 * 33 + k % 33 = k from by omega] at this
theorem Tab.range (h : Tab w g F) : w.rangeAt g 0 (tabL F) := by
  intro j v hj
  have hl : j < 1089 := by rw [← tabL_length F]; exact (List.getElem?_eq_some_iff.1 hj).1
  rw [tabL_at F hl] at hj
  rw [Nat.zero_add, h.at_ hl, hj]
theorem Tab.there (h : Tab w g F) : w.there g 0 1089 := fun j hj => by
  rw [Nat.zero_add]
  exact ⟨by rw [h.at_ hj]; rfl, h.fz j⟩
theorem Tab.stored (h : Tab w g F) (G : Nat → Nat → Bool) : Tab (w.setCells g 0 (tabL G)) g G := by
  obtain ⟨h1, h2, _⟩ := setCells_heap g (tabL G) 0 w
  have hr := World.rangeAt_setCells_same w g 0 (tabL G) (by rw [tabL_length]; exact h.there)
  refine ⟨by rw [h1]; exact h.lt, fun i => by rw [World.frozen?_setCells]; exact h.fz i, fun a b ha hb => ?_⟩
  have := hr (a * 33 + b) _ (tabL_at G (by omega))
  rw [Nat.zero_add] at this
  rw [this, show (a * 33 + b) / 33 = a from by omega, show (a * 33 + b) % 33 = b from by omega]
theorem Tab.far' (h : Tab w g F) {b : Nat} (hb : g ≠ b) (o : Nat) (vs : List Value) : Tab (w.setCells b o vs) g F := by
  obtain ⟨h1, h2, _⟩ := setCells_heap b vs o w
  exact h.of_block (Nat.le_of_eq h1.symm) (h2 g hb)
end
def tabZ : Array Value := Array.replicate 1089 (.bool false)
theorem Tab.new (w : World) (t : TypeId) : Tab (w.alloc (.cells tabZ t)) w.heap.size (fun _ _ => false) := by
  refine ⟨by simp, fun i => by simp, fun a b ha hb => ?_⟩
  rw [World.cell?_alloc_new]
  have : a * 33 + b < 1089 := by omega
  simp [tabZ, this]
/-- The table, and the table while it is made. -/
def tF (n q a b : Nat) : Bool := if a + b ≤ n then en q a b else decide (a + b ≤ 1)
def gF (n q i j a b : Nat) : Bool := if (a < i ∨ (a = i ∧ b < j)) ∧ a + b ≤ n then en (q + 1) a b else tF n q a b
def vF (n q i j : Nat) (v : Bool) (a b : Nat) : Bool := if a = i ∧ b = j then v else gF n q i j a b
theorem tF_in {n q a b : Nat} (h : a + b ≤ n) : tF n q a b = en q a b := if_pos h
theorem tF_zero (n a b : Nat) : tF n 0 a b = decide (a + b ≤ 1) := by
  unfold tF
  split
  · rfl
  · rfl
theorem gF_start (n q a b : Nat) : gF n q 0 0 a b = tF n q a b := by
  unfold gF
  rw [if_neg (by omega)]
theorem gF_row (n q i j a b : Nat) (hj : n < i + j) : gF n q (i + 1) 0 a b = gF n q i j a b := by
  unfold gF
  by_cases h : (a < i ∨ (a = i ∧ b < j)) ∧ a + b ≤ n
  · rw [if_pos h, if_pos (by omega)]
  · rw [if_neg h, if_neg (by omega)]
theorem gF_end (n q a b : Nat) : gF n q (n + 1) 0 a b = tF n (q + 1) a b := by
  unfold gF
  by_cases h : a + b ≤ n
  · rw [if_pos (by omega), tF_in h]
  · rw [if_neg (by omega)]
    unfold tF
    rw [if_neg h, if_neg h]
theorem gF_at {n q i j : Nat} (h : i + j ≤ n) : gF n q i j i j = en q i j := by
  unfold gF
  rw [if_neg (by omega), tF_in h]
theorem vF_start {n q i j : Nat} (h : i + j ≤ n) (a b : Nat) : vF n q i j (en q i j) a b = gF n q i j a b := by
  unfold vF
  split
  · rename_i e
    obtain ⟨rfl, rfl⟩ := e
    exact (gF_at h).symm
  · rfl
theorem vF_end {n q i j : Nat} (h : i + j ≤ n) (a b : Nat) : vF n q i j (en (q + 1) i j) a b = gF n q i (j + 1) a b := by
  unfold vF gF
  by_cases e : a = i ∧ b = j
  · obtain ⟨rfl, rfl⟩ := e
    rw [if_pos ⟨rfl, rfl⟩, if_pos (by omega)]
  · rw [if_neg e]
    by_cases k : (a < i ∨ (a = i ∧ b < j)) ∧ a + b ≤ n
    · rw [if_pos k, if_pos (by omega)]
    · rw [if_neg k, if_neg (by omega)]
theorem vF_put (n q i j : Nat) (v u : Bool) (a b : Nat) : vF n q i j u a b = if a = i ∧ b = j then u else vF n q i j v a b := by
  unfold vF
  split <;> rfl
/-- What is known of a state's cell while questions are tried: x whole, and y of the next. -/
def Part (q i j x y : Nat) (v : Bool) : Prop := (v = true → en (q + 1) i j = true) ∧ (v = false → en q i j = false ∧ (∀ u, u < x → ∀ t, t ≤ j → good q i j u t = false) ∧ ∀ t, t < y → good q i j x t = false)
theorem Part.start (q i j : Nat) : Part q i j 0 0 (en q i j) := ⟨fun h => en_up h, fun h => ⟨h, fun u hu => by omega, fun t ht => by omega⟩⟩
theorem Part.more {q i j x y : Nat} (h : Part q i j x y false) (hx : x ≤ i) (hy : y ≤ j) : Part q i j x (y + 1) (good q i j x y) := by
  refine ⟨fun k => en_succ.2 (.inr ⟨x, y, hx, hy, k⟩), fun k => ?_⟩
  obtain ⟨h1, h2, h3⟩ := h.2 rfl
  refine ⟨h1, h2, fun t ht => ?_⟩
  rcases (by omega : t < y ∨ t = y) with e | rfl
  · exact h3 t e
  · exact k
theorem Part.next {q i j x y : Nat} {v : Bool} (h : Part q i j x y v) (hy : v = false → j < y) : Part q i j (x + 1) 0 v := by
  refine ⟨h.1, fun k => ?_⟩
  obtain ⟨h1, h2, h3⟩ := h.2 k
  have := hy k
  refine ⟨h1, fun u hu t ht => ?_, fun t ht => by omega⟩
  rcases (by omega : u < x ∨ u = x) with e | rfl
  · exact h2 u e t ht
  · exact h3 t (by omega)
theorem Part.done {q i j x : Nat} {v : Bool} (h : Part q i j x 0 v) (hx : v = false → i < x) : v = en (q + 1) i j := by
  cases v
  · obtain ⟨h1, h2, _⟩ := h.2 rfl
    have := hx rfl
    symm
    rw [Bool.eq_false_iff]
    intro e
    rcases en_succ.1 e with e | ⟨u, t, hu, ht, e⟩
    · rw [en_settled e] at h1; cases h1
    · rw [h2 u (by omega) t ht] at e; cases e
  · exact (h.1 rfl).symm
end Go.Proofs.Ytmklpldmgmjlkaa

