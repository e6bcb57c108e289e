/- Blocks of integers that the call itself makes. -/
import Derived.Test.YtmklpldmgmjlkaaKA
import Derived.Deep.AppendLies
namespace Go.Proofs.Ytmklpldmgmjlkaa
open Go.RowKit

/-- Block g has m cells, none frozen, and the first k of them hold the numbers f. -/
structure Row (w : World) (g m k : Nat) (f : Nat → Int) : Prop where
  lt : g < w.heap.size
  fz : ∀ i, w.frozen? ⟨g, i, none⟩ = false
  all : ∀ i, i < m → ∃ v, w.cell? ⟨g, i, none⟩ = some v
  cells : ∀ i, i < k → w.cell? ⟨g, i, none⟩ = some (.int .i64 (f i))
section
variable {w w' : World} {g m k : Nat} {f : Nat → Int}
theorem Row.of_block (h : Row w g m k f) (hs : w.heap.size ≤ w'.heap.size) (hb : w'.heap[g]? = w.heap[g]?) : Row w' g m k f := by
  have hc : ∀ j, w'.cell? ⟨g, j, none⟩ = w.cell? ⟨g, j, none⟩ := fun j => World.cell?_of_block (w := w) (a := ⟨g, j, none⟩) hb
  have hf : ∀ j, w'.frozen? ⟨g, j, none⟩ = w.frozen? ⟨g, j, none⟩ := fun j => World.frozen?_of_block (w := w) (a := ⟨g, j, none⟩) hb
  exact ⟨Nat.lt_of_lt_of_le h.lt hs, fun i => (hf i).trans (h.fz i), fun i hi => by rw [hc]; exact h.all i hi, fun i hi => by rw [hc]; exact h.cells i hi⟩
theorem Row.bel (h : Row w g m k f) (hb : Bel w w') : Row w' g m k f := h.of_block hb.size (hb.block g h.lt)
theorem Row.grown (h : Row w g m k f) {r : Nat} (hb : w.grownBy w' (some r)) (hne : g ≠ r) : Row w' g m k f :=
  h.of_block hb.size (hb.block g h.lt (fun e => hne (by injection e)))
theorem Row.drew (h : Row w g m k f) : Row w.drew g m k f := h.of_block (Nat.le_refl _) rfl
theorem Row.drewN (h : Row w g m k f) (n : Nat) : Row (w.drewN n) g m k f := h.of_block (Nat.le_refl _) rfl
theorem Row.alloc (h : Row w g m k f) (o : Obj) : Row (w.alloc o) g m k f := h.of_block (by simp) (Below.heap_alloc _ _ _ h.lt)
theorem Row.far (h : Row w g m k f) {p : Addr} (hp : g ≠ p.block) (u : Value) : Row (w.setCell p u) g m k f :=
  h.of_block (by simp [World.setCell]) (Below.heap_setCell _ _ _ _ hp)
theorem Row.set_ (h : Row w g m k f) {i : Nat} (hi : i = k) (hk : k < m) {x : Int} (hx : x = f k) : Row (w.setCell ⟨g, i, none⟩ (.int .i64 x)) g m (k + 1) f := by
  subst hi hx
  obtain ⟨v, hv⟩ := h.all i hk
  refine ⟨by simpa [World.setCell] using h.lt, fun j => by rw [World.frozen?_setCell]; exact h.fz j, fun j hj => ?_, fun j hj => ?_⟩
  · by_cases e : j = i
    · subst e
      exact ⟨_, World.cell?_setCell_same _ _ _ hv⟩
    · rw [World.cell?_setCell_other _ _ _ _ (by simp <;> omega)]
      exact h.all j hj
  · by_cases e : j = i
    · subst e
      exact World.cell?_setCell_same _ _ _ hv
    · rw [World.cell?_setCell_other _ _ _ _ (by simp <;> omega)]
      exact h.cells j (by omega)
theorem Row.congr (h : Row w g m k f) {f' : Nat → Int} (e : ∀ i, i < k → f' i = f i) : Row w g m k f' :=
  ⟨h.lt, h.fz, h.all, fun i hi => by rw [e i hi]; exact h.cells i hi⟩
theorem Row.new (w : World) (C : Array Value) (t : TypeId) (f : Nat → Int) (hC : ∀ i, i < m → ∃ v, C[i]? = some v) : Row (w.alloc (.cells C t)) w.heap.size m 0 f :=
  ⟨by simp, fun i => by simp, fun i hi => by
    obtain ⟨v, hv⟩ := hC i hi
    exact ⟨v, by rw [World.cell?_alloc_new]; exact hv⟩, fun i hi => by omega⟩
end

/-- 'make([]T, n)': n new elements; what they hold is not said. -/
theorem make_any {P : Program} (t e : TypeId) {size bytes : Nat} (hinfo : (P.info? e).map (fun i => (i.zero.isSome, i.size, i.bytes)) = some (true, size, bytes)) (ht : P.underlying t = some (.slice e))
    (n : Nat) (hb : bytes * n ≤ 281474976710656) (h63 : n ≤ 9223372036854775807) :
    ∃ C : Array Value, (∀ i, i < n * size → ∃ v, C[i]? = some v) ∧ ∀ W : World, (Instr.makeSlice t (.int .i64 (n : Int)) (.int .i64 (n : Int))).run P W = .ok (.slice (some ⟨W.heap.size, 0, none⟩) n n) (W.alloc (.cells C e)) := by
  obtain ⟨i, hi, hzz⟩ := Option.map_eq_some_iff.1 hinfo
  simp only [Prod.mk.injEq] at hzz
  obtain ⟨hz1, hz2, hz3⟩ := hzz
  obtain ⟨z, hz⟩ := Option.isSome_iff_exists.1 hz1
  refine ⟨madeCells z.cells (n * i.size), fun j hj => ?_, fun W => ?_⟩
  · rw [← hz2] at hj
    exact ⟨_, Array.getElem?_eq_getElem (by rw [size_madeCells]; exact hj)⟩
  · have hb' : (i.bytes : Int) * (n : Int) ≤ 281474976710656 := by
      rw [hz3]
      have : ((bytes * n : Nat) : Int) ≤ 281474976710656 := by omega
      rwa [Int.natCast_mul] at this
    have hr := run_make (P := P) W t e i z ht hi hz .i64 .i64 n n (by omega) (Int.le_refl _) hb' (by omega)
    simpa using hr

theorem infoInt : (Try.prog.info? 3).map (fun i => (i.zero, i.size, i.bytes)) = some (some (.int .i64 0), 1, 8) := by kernel_rfl
theorem Row.whole (w : World) (C : Array Value) (t : TypeId) (m : Nat) (f : Nat → Int) (hC : ∀ i, i < m → C[i]? = some (.int .i64 (f i))) : Row (w.alloc (.cells C t)) w.heap.size m m f :=
  ⟨by simp, fun i => by simp, fun i hi => ⟨_, by rw [World.cell?_alloc_new]; exact hC i hi⟩, fun i hi => by rw [World.cell?_alloc_new]; exact hC i hi⟩
theorem Row.put {w : World} {g m i : Nat} {f : Nat → Int} (h : Row w g m m f) (hi : i < m) (x : Int) : Row (w.setCell ⟨g, i, none⟩ (.int .i64 x)) g m m (fun j => if j = i then x else f j) := by
  obtain ⟨v, hv⟩ := h.all i hi
  refine ⟨by simpa [World.setCell] using h.lt, fun j => by rw [World.frozen?_setCell]; exact h.fz j, fun j hj => ?_, fun j hj => ?_⟩
  · by_cases e : j = i
    · subst e
      exact ⟨_, World.cell?_setCell_same _ _ _ hv⟩
    · rw [World.cell?_setCell_other _ _ _ _ (by simp <;> omega)]
      exact h.all j hj
  · by_cases e : j = i
    · subst e
      rw [if_pos rfl]
      exact World.cell?_setCell_same _ _ _ hv
    · rw [World.cell?_setCell_other _ _ _ _ (by simp <;> omega), if_neg e]
      exact h.cells j hj
theorem made_int (g i : Nat) (h : i < g) : (madeCells #[.int .i64 0] g)[i]? = some (.int .i64 0) := by simp [madeCells, h, Nat.mod_one]
theorem Row.ints {w : World} {b m : Nat} {f : Nat → Int} (h : Row w b m m f) : Ints w (some ⟨b, 0, none⟩) ((List.range m).map f) := by
  refine .inr ⟨b, 0, rfl, h.lt, fun j v hj => ?_⟩
  simp only [List.getElem?_map, Option.map_eq_some_iff] at hj
  obtain ⟨i, hi, rfl⟩ := hj
  obtain ⟨hl, e⟩ := List.getElem?_eq_some_iff.1 hi
  simp at hl e
  subst e
  rw [Nat.zero_add]
  exact h.cells j hl
end Go.Proofs.Ytmklpldmgmjlkaa

