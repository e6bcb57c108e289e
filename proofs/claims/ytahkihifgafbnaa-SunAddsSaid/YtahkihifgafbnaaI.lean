/- Loops over functions in a loop: what they leave to be done at the end. -/
import Derived.Test.YtahkihifgafbnaaF
import Derived.Test.YtahkihifgafbnaaH
namespace Go.Proofs.Ytahkihifgafbnaa
open Go.RowKit

/-- The blocks of the rounds' deferred calls, all taken. -/
def takeAll (Ds : List Nat) (w : World) : World := Ds.foldl (fun w D => w.putObj D (.deferred none)) w
theorem takeAll_other : ∀ (Ds : List Nat) (w : World) (k : Nat), k ∉ Ds → (takeAll Ds w).heap[k]? = w.heap[k]?
  | [], _, _, _ => rfl
  | D :: Ds, w, k, h => by
    simp only [List.mem_cons, not_or] at h
    show (takeAll Ds (w.putObj D (.deferred none))).heap[k]? = _
    rw [takeAll_other Ds _ k h.2, World.putObj_heap_other (fun e => h.1 (by first | exact e | exact e.symm))]
theorem takeAll_size : ∀ (Ds : List Nat) (w : World), (takeAll Ds w).heap.size = w.heap.size
  | [], _ => rfl
  | D :: Ds, w => by
    show (takeAll Ds (w.putObj D (.deferred none))).heap.size = _
    rw [takeAll_size Ds]
    simp [World.putObj]
def coll (Ds : List Nat) : List Deferred := Ds.map fun D => { target := .collected D, args := #[] }
/-- The blocks Ds hold nothing to be done yet. -/
def Idle (Ds : List Nat) (w : World) : Prop := ∀ D ∈ Ds, w.heap[D]? = some (.deferred (some []))
theorem takeAll_bel {w0 : World} : ∀ (Ds : List Nat) (w : World), Ds.Nodup → Idle Ds w → (∀ D ∈ Ds, w0.heap.size ≤ D) → Bel w0 w → Bel w0 (takeAll Ds w)
  | [], _, _, _, _, h => h
  | D :: Ds, w, hn, hi, hl, h => by
    have hn' := List.nodup_cons.1 hn
    refine takeAll_bel (w0 := w0) Ds (w.putObj D (.deferred none)) hn'.2 (fun E hE => ?_) (fun E hE => hl E (List.mem_cons_of_mem _ hE)) ?_
    · rw [World.putObj_heap_other (fun e => hn'.1 (by first | (rw [e]; exact hE) | (rw [← e]; exact hE)))]
      exact hi E (List.mem_cons_of_mem _ hE)
    · exact Below.grown h (grownBy_putObj' w D (.deferred none)) h.size (fun k e => by cases e; exact hl D (by simp))
theorem leaves_many {F : Fence} {n : Nat} {P : Program} {fn : Func} {tmps : Array Value} {R : Ending → World → Prop} : ∀ (Ds : List Nat) (w : World), Ds.Nodup → Idle Ds w →
    LeavesIn F n P fn tmps R [] .returning (takeAll Ds w) → LeavesInM F n P fn tmps R (coll Ds) .returning w
  | [], _, _, _, h => h
  | D :: Ds, w, hn, hi, h => by
    have hn' := List.nodup_cons.1 hn
    refine ⟨by simp, .inl ⟨D, _, rfl, run_takeDeferred (hi D (by simp)), ?_⟩⟩
    refine leaves_many Ds (w.putObj D (.deferred none)) hn'.2 (fun E hE => ?_) h
    rw [World.putObj_heap_other (fun e => hn'.1 (by first | (rw [e]; exact hE) | (rw [← e]; exact hE)))]
    exact hi E (List.mem_cons_of_mem _ hE)
theorem own_grown {β : Type} {B g : Nat} {W0 : World} (hB : W0.heap.size ≤ B) : OwnFrom B (fun (_ : β) W => W0.grownBy W (some g)) := fun _ _ _ row hs hg hr =>
  ⟨hg.os.trans hs.os, hg.tape.trans hs.tape, hg.output.trans hs.output, Nat.le_trans hs.size hg.size, fun k hk hne => (hg.block k (Nat.lt_of_lt_of_le hk hs.size) (fun e => by have := (hr _ e.symm).1; omega)).trans (hs.block k hk hne)⟩
theorem own_row {β : Type} {B g m k : Nat} (hB : g < B) (f : β → Nat → Int) : OwnFrom B (fun s W => Row W g m k (f s)) := fun _ _ _ row hs hg hr =>
  hs.of_block hg.size (hg.block g hs.lt (fun e => by have := (hr _ e.symm).1; omega))
theorem gb_new {W0 W : World} {g : Nat} (h : W0.grownBy W (some g)) (o : Obj) : W0.grownBy (W.alloc o) (some g) :=
  ⟨h.os, h.tape, h.output, Nat.le_trans h.size (by simp), fun k hk hne => (Below.heap_alloc _ _ _ (Nat.lt_of_lt_of_le hk h.size)).trans (h.block k hk hne)⟩
theorem gb_store {W0 W : World} {g o : Nat} (h : W0.grownBy W (some g)) (u : Value) : W0.grownBy (W.setCell ⟨g, o, none⟩ u) (some g) :=
  ⟨h.os, h.tape, h.output, by simpa [World.setCell] using h.size, fun k hk hne => (Below.heap_setCell _ _ _ _ (fun e => hne (by first | (rw [e]) | (rw [← e])))).trans (h.block k hk hne)⟩
end Go.Proofs.Ytahkihifgafbnaa
