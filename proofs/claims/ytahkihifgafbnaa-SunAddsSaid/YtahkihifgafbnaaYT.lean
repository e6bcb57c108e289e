/- A row of a table of its own, grown by one number. -/
import Derived.Test.YtahkihifgafbnaaYS
namespace Go.Proofs.Ytahkihifgafbnaa
open Go.RowKit

theorem set_range {α : Type} (F : Nat → α) (u : α) (k : Nat) : ∀ n, ((List.range n).map F).set k u = (List.range n).map fun i => if i = k then u else F i := fun n => by
  refine List.ext_getElem? fun j => ?_
  rw [List.getElem?_set]
  by_cases e : k = j
  · subst e
    rw [if_pos rfl]
    by_cases hk : k < n
    · simp [hk]
    · simp [hk]
  · rw [if_neg e]
    by_cases hj : j < n
    · have : ¬ j = k := fun h => e h.symm
      simp [hj, this]
    · simp [hj]
theorem Grid.regrow {base g2 c2 n k g3 cap3 : Nat} {wr W w3 : World} {bs ls cs : Nat → Nat} {f : Nat → Nat → Int} {y : Int} (hG : Grid base wr (.slice (some ⟨g2, 0, none⟩) n c2) n bs ls cs f) (hRO : RowsO wr n bs cs) (hk : k < n) (hW : Bel wr W) (hg : W.grownBy w3 (some (bs k)))
    (hown : w3.ownsRow base 3 1 (.slice (some ⟨g3, 0, none⟩) (ls k + 1) cap3) (ls k + 1) (((List.range (ls k)).map fun j => .int .i64 (f k j)) ++ [.int .i64 y])) (hat : bs k = g3 ∨ g3 = W.heap.size) :
    w3.cell? ⟨g2, k, none⟩ = some (.slice (some ⟨bs k, 0, none⟩) (ls k) (cs k)) ∧ w3.frozen? ⟨g2, k, none⟩ = false ∧ g2 < w3.heap.size ∧
    Grid base (w3.setCell ⟨g2, k, none⟩ (.slice (some ⟨g3, 0, none⟩) (ls k + 1) cap3)) (.slice (some ⟨g2, 0, none⟩) n c2) n (fun i => if i = k then g3 else bs i) (fun i => if i = k then ls k + 1 else ls i) (fun i => if i = k then cap3 else cs i) (fun a b => if a = k ∧ b = ls k then y else f a b) ∧
    RowsO (w3.setCell ⟨g2, k, none⟩ (.slice (some ⟨g3, 0, none⟩) (ls k + 1) cap3)) n (fun i => if i = k then g3 else bs i) (fun i => if i = k then cap3 else cs i) := by
  have hg2 := (World.ownsRow.lt hG.own g2 rfl).2
  have hne : ∀ i, i < n → ¬ g2 = bs i := fun i hi e => hG.ne i hi (by rw [← e]; rfl)
  have hlt : ∀ i, i < n → bs i < wr.heap.size := fun i hi => by obtain ⟨_, _, hr⟩ := hG.row i hi; exact hr.lt
  have hsz := hW.size
  have hg3 : ¬ g2 = g3 := by
    rcases hat with e | e
    · rw [← e]; exact hne k hk
    · omega
  have hin : ∀ i, i < n → ¬ i = k → ¬ bs i = g3 := fun i hi e1 e2 => by
    rcases hat with e | e
    · exact e1 (hG.inj i k hi hk (by rw [e2, e]))
    · have := hlt i hi
      omega
  have hown1 : w3.ownsRow base 26 1 (.slice (some ⟨g2, 0, none⟩) n c2) n ((List.range n).map fun i => .slice (some ⟨bs i, 0, none⟩) (ls i) (cs i)) :=
    World.ownsRow.kept (row := some (bs k)) (ownsRow_bel hG.own hW) hg (.inr (hG.ne k hk))
  have hc : w3.cell? ⟨g2, k, none⟩ = some (.slice (some ⟨bs k, 0, none⟩) (ls k) (cs k)) := by
    have := World.ownsRow.cells (g := g2) hown1 rfl k (.slice (some ⟨bs k, 0, none⟩) (ls k) (cs k)) (by rw [List.getElem?_map, List.getElem?_range hk]; rfl)
    rw [Go.Addr.add_mid, Nat.zero_add] at this
    exact this
  have hblk : ∀ i, i < n → ¬ i = k → (w3.setCell ⟨g2, k, none⟩ (.slice (some ⟨g3, 0, none⟩) (ls k + 1) cap3)).heap[bs i]? = wr.heap[bs i]? := fun i hi e => by
    rw [Below.heap_setCell _ _ _ _ (fun e2 => hne i hi e2.symm), hg.block _ (Nat.lt_of_lt_of_le (hlt i hi) hsz) (fun e2 => e (hG.inj i k hi hk (by injection e2))), hW.block _ (hlt i hi)]
  have hfz : w3.frozen? ⟨g2, k, none⟩ = false := by
    rcases hown1.2 with ⟨e, _⟩ | ⟨g', cap', cur, hv, _, hgg, _⟩
    · cases e
    · cases hv
      simp [World.frozen?, hgg]
  refine ⟨hc, hfz, (World.ownsRow.lt hown1 g2 rfl).2, ⟨?_, fun i hi => ?_, fun i hi e => ?_, fun i j hi hj e => ?_, fun i hi => ?_⟩, fun i hi => ?_⟩
  · have h1 := (World.ownsRow.stored hown1 k (.slice (some ⟨g3, 0, none⟩) (ls k + 1) cap3)).1
    rw [set_range] at h1
    have e : ((List.range n).map fun i => if i = k then Value.slice (some ⟨g3, 0, none⟩) (ls k + 1) cap3 else .slice (some ⟨bs i, 0, none⟩) (ls i) (cs i)) = (List.range n).map fun i => .slice (some ⟨if i = k then g3 else bs i, 0, none⟩) (if i = k then ls k + 1 else ls i) (if i = k then cap3 else cs i) :=
      List.map_congr_left fun i _ => by
        by_cases e : i = k
        · simp only [if_pos e]
        · simp only [if_neg e]
    rw [e] at h1
    exact h1
  · by_cases e : i = k
    · simp only [if_pos e]
      exact (World.ownsRow.lt hown g3 rfl).1
    · simp only [if_neg e]
      exact hG.lo i hi
  · have e' : some g2 = some (if i = k then g3 else bs i) := e
    injection e' with e'
    by_cases e1 : i = k
    · rw [if_pos e1] at e'
      exact hg3 e'
    · rw [if_neg e1] at e'
      exact hne i hi e'
  · by_cases e1 : i = k
    · by_cases e2 : j = k
      · omega
      · simp only [if_pos e1, if_neg e2] at e
        exact absurd e.symm (hin j hj e2)
    · by_cases e2 : j = k
      · simp only [if_neg e1, if_pos e2] at e
        exact absurd e (hin i hi e1)
      · simp only [if_neg e1, if_neg e2] at e
        exact hG.inj i j hi hj e
  · by_cases e : i = k
    · subst e
      have e2 : (((List.range (ls i)).map fun j => Value.int .i64 (f i j)) ++ [.int .i64 y]) = ((List.range (ls i)).map (f i) ++ [y]).map fun x => .int .i64 x := by simp
      rw [e2] at hown
      obtain ⟨_, r2, r3⟩ := Row.of_own hown
      refine ⟨cap3, by simp only [if_pos]; exact r2, ?_⟩
      simp only [if_pos]
      refine (r3.far (p := ⟨g2, i, none⟩) (fun e => hg3 e.symm) _).congr fun j hj => ?_
      rw [List.getD_eq_getElem?_getD]
      by_cases e3 : j = ls i
      · subst e3
        rw [if_pos ⟨trivial, rfl⟩]
        simp
      · rw [if_neg (fun h => e3 h.2), List.getElem?_append_left (by simp; omega), List.getElem?_map, List.getElem?_range (by omega)]
        rfl
    · obtain ⟨m, h1, h2⟩ := hG.row i hi
      refine ⟨m, by simp only [if_neg e]; exact h1, ?_⟩
      simp only [if_neg e]
      exact (h2.of_block (w' := w3.setCell ⟨g2, k, none⟩ (.slice (some ⟨g3, 0, none⟩) (ls k + 1) cap3)) (by have := hg.size; simp [World.setCell]; omega) (hblk i hi e)).congr fun j hj => by rw [if_neg (fun h => e h.1)]
  · by_cases e : i = k
    · simp only [if_pos e]
      obtain ⟨cur, h1, h2, h3⟩ := cur_of hown
      exact ⟨cur, by rw [Below.heap_setCell _ _ _ _ (fun e => hg3 e.symm)]; exact h1, h2, h3⟩
    · simp only [if_neg e]
      obtain ⟨cur, h1, h2, h3⟩ := hRO i hi
      exact ⟨cur, by rw [hblk i hi e]; exact h1, h2, h3⟩
end Go.Proofs.Ytahkihifgafbnaa
