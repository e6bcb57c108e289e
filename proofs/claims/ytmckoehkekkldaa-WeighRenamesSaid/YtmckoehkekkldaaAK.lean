/- Plain: a set is what is below; sides that a call builds. -/
import Derived.Test.YtmckoehkekkldaaAJ
namespace Go.Proofs.Ytmckoehkekkldaa
open Go.RowKit

theorem setB_pairwise {n : Int} {l : List Int} (h : setB n l = true) : l.Pairwise (· < ·) := by
  rw [List.pairwise_iff_getElem]
  intro i j hi hj hij
  have := setB_lt h hij hj
  rw [getD_of (List.getElem?_eq_getElem hi), getD_of (List.getElem?_eq_getElem hj)] at this
  exact this
/-- What is below a number. -/
def below (l : List Int) (x : Nat) : List Int := l.filter fun v => decide (v < (x : Int))
theorem below_none {l : List Int} {x : Nat} (h : ∀ v ∈ l, ¬ v < (x : Int)) : below l x = [] := by
  unfold below
  rw [List.filter_eq_nil_iff]
  intro v hv
  simpa using h v hv
theorem below_next : ∀ {l : List Int} {x : Nat}, l.Pairwise (· < ·) → below l (x + 1) = if hasB l (x : Int) = true then below l x ++ [(x : Int)] else below l x
  | [], x, _ => by simp [below, hasB]
  | a :: t, x, h => by
    rw [List.pairwise_cons] at h
    have ih := below_next (x := x) h.2
    have hh : hasB (a :: t) (x : Int) = (decide (a = (x : Int)) || hasB t (x : Int)) := by
      unfold hasB
      rw [List.contains_cons]
      congr 1
      rw [Bool.eq_iff_iff, beq_iff_eq, decide_eq_true_iff]
      exact eq_comm
    have e1 : ∀ y : Nat, below (a :: t) y = if a < (y : Int) then a :: below t y else below t y := by
      intro y
      unfold below
      rw [List.filter_cons]
      by_cases hc : a < (y : Int) <;> simp [hc]
    rw [hh, e1, e1]
    by_cases h1 : a < (x : Int)
    · rw [if_pos (by omega), if_pos h1, ih, decide_eq_false (by omega), Bool.false_or]
      split <;> simp
    · by_cases h2 : a = (x : Int)
      · have h3 : hasB t (x : Int) = false := by
          cases hb : hasB t (x : Int)
          · rfl
          · have := h.1 _ (hasB_iff.1 hb)
            omega
        rw [if_pos (by omega), if_neg h1, ih, h3, decide_eq_true h2, Bool.or_false, if_pos rfl, if_neg (by decide), below_none (fun v hv => by have := h.1 v hv; omega), h2]
        rfl
      · have h3 : hasB t (x : Int) = false := by
          cases hb : hasB t (x : Int)
          · rfl
          · have := h.1 _ (hasB_iff.1 hb)
            omega
        rw [if_neg (by omega), if_neg h1, ih, h3, decide_eq_false h2]
        rfl
theorem below_all {n : Nat} {l : List Int} (h : setB (n : Int) l = true) : below l n = l := by
  unfold below
  rw [List.filter_eq_self]
  intro v hv
  simpa using (setB_in h hv).2
theorem below_zero {n : Int} {l : List Int} (h : setB n l = true) : below l 0 = [] := below_none fun v hv => by have := (setB_in h hv).1; omega
/-- The sum of the sides of the lots below a number. -/
def sumSd (p : Wg) : Nat → Int
  | 0 => 0
  | x + 1 => sumSd p x + sd (x : Int) p
theorem sumSd_eq {n : Nat} {p : Wg} (h : GoodW n p) : ∀ x, sumSd p x = ((below p.1 x).length : Int) - ((below p.2 x).length : Int)
  | 0 => by
    rw [below_zero h.left, below_zero h.right]
    rfl
  | x + 1 => by
    rw [sumSd, sumSd_eq h x, below_next (setB_pairwise h.left), below_next (setB_pairwise h.right)]
    unfold sd
    cases h1 : hasB p.2 (x : Int)
    · cases h2 : hasB p.1 (x : Int)
      · simp
      · simp
        omega
    · have h2 : hasB p.1 (x : Int) = false := by
        cases hb : hasB p.1 (x : Int)
        · rfl
        · have := h.apart _ (hasB_iff.1 hb)
          rw [h1] at this
          cases this
      rw [h2]
      simp
      omega
theorem sumSd_zero {n : Nat} {p : Wg} (h : GoodW n p) : sumSd p n = 0 := by
  rw [sumSd_eq h n, below_all h.left, below_all h.right, h.len]
  omega
/-- Block g holds N slices of the call's own, from block 'base' on, all apart: slice i holds the integers S i. -/
structure Sides (base : Nat) (w : World) (g N : Nat) (S : Nat → List Int) (vs : Nat → Value) : Prop where
  lt : g < base
  fz : ∀ i, w.frozen? ⟨g, i, none⟩ = false
  cells : ∀ i, i < N → w.cell? ⟨g, i, none⟩ = some (vs i)
  own : ∀ i, i < N → Own1 3 base w (vs i) (S i)
  apart : ∀ i j b, i < N → j < N → i ≠ j → (vs i).ownBlock = some b → (vs j).ownBlock ≠ some b
theorem Sides.gt {base : Nat} {w : World} {g N : Nat} {S : Nat → List Int} {vs : Nat → Value} (h : Sides base w g N S vs) {W : World} (hb : Bel w W) (hg : g < w.heap.size) : Sides base W g N S vs :=
  ⟨h.lt, fun i => by rw [hb.use.2.1 _ _ hg]; exact h.fz i, fun i hi => by rw [hb.use.1 _ _ hg]; exact h.cells i hi, fun i hi => (h.own i hi).bel hb, h.apart⟩
theorem own_store {e base : Nat} {w : World} {v : Value} {l : List Int} (h : Own1 e base w v l) {g o : Nat} (hg : g < base) (u : Value) : Own1 e base (w.setCell ⟨g, o, none⟩ u) v l :=
  World.ownsRow.kept (row := some g) h ⟨rfl, rfl, rfl, by simp [World.setCell], fun k hk hne => Below.heap_setCell _ _ _ _ (fun e => hne (by rw [e]))⟩ (by
    cases hv : v.ownBlock with
    | none => exact .inl rfl
    | some k =>
      refine .inr fun e => ?_
      have := (World.ownsRow.lt h k hv).1
      injection e with e
      omega)
/-- A number is appended to a side, and the side is stored. -/
theorem Sides.step {base : Nat} {w w3 : World} {g N : Nat} {S S' : Nat → List Int} {vs : Nat → Value} (h : Sides base w g N S vs) {i : Nat} (hi : i < N) {x : Int} {v' : Value} (hg : g < w.heap.size)
    (hS : S' i = S i ++ [x]) (hO : ∀ j, j ≠ i → S' j = S j) (hown : Own1 3 base w3 v' (S i ++ [x])) (hgr : w.grownBy w3 (vs i).ownBlock)
    (hat : v'.ownBlock = (vs i).ownBlock ∨ ∀ b, v'.ownBlock = some b → w.heap.size ≤ b) : ∃ vs', Sides base (w3.setCell ⟨g, i, none⟩ v') g N S' vs' ∧ ∀ j b, (vs' j).ownBlock = some b → (vs j).ownBlock = some b ∨ w.heap.size ≤ b := by
  have hne : ∀ b, (vs i).ownBlock = some b → b ≠ g := fun b hb e => by
    have := (World.ownsRow.lt (h.own i hi) b hb).1
    have := h.lt
    omega
  have hblk : w3.heap[g]? = w.heap[g]? := hgr.block g hg (fun e => hne g e.symm rfl)
  refine ⟨fun j => if j = i then v' else vs j, ⟨h.lt, fun j => ?_, fun j hj => ?_, fun j hj => ?_, fun j k b hj hk hjk => ?_⟩, fun j b hb => ?_⟩
  rotate_right
  · by_cases e : j = i
    · subst e
      simp only [if_true] at hb
      rcases hat with ha | ha
      · exact .inl (by rw [← ha]; exact hb)
      · exact .inr (ha b hb)
    · simp only [if_neg e] at hb
      exact .inl hb
  · rw [World.frozen?_setCell, World.frozen?_of_block (w := w) hblk]
    exact h.fz j
  · by_cases e : j = i
    · subst e
      rw [if_pos rfl]
      exact World.cell?_setCell_same _ _ _ (by rw [World.cell?_of_block (w := w) hblk]; exact h.cells j hj)
    · rw [if_neg e, World.cell?_setCell_other _ _ _ _ (by simp <;> omega), World.cell?_of_block (w := w) hblk]
      exact h.cells j hj
  · by_cases e : j = i
    · subst e
      rw [if_pos rfl, hS]
      exact own_store hown h.lt v'
    · rw [if_neg e, hO j e]
      refine own_store (World.ownsRow.kept (row := (vs i).ownBlock) (h.own j hj) hgr ?_) h.lt v'
      cases hv : (vs j).ownBlock with
      | none => exact .inl rfl
      | some k =>
        refine .inr fun e2 => ?_
        exact h.apart i j k hi hj (fun e3 => e e3.symm) e2.symm hv
  · by_cases ej : j = i
    · subst ej
      rw [if_pos rfl, if_neg (fun e => hjk e.symm)]
      intro hb hb2
      rcases hat with ha | ha
      · rw [ha] at hb
        exact h.apart j k b hi hk hjk hb hb2
      · have h1 := ha b hb
        have h2 := (World.ownsRow.lt (h.own k hk) b hb2).2
        omega
    · rw [if_neg ej]
      by_cases ek : k = i
      · subst ek
        rw [if_pos rfl]
        intro hb hb2
        rcases hat with ha | ha
        · rw [ha] at hb2
          exact h.apart j k b hj hi hjk hb hb2
        · have h1 := ha b hb2
          have h2 := (World.ownsRow.lt (h.own j hj) b hb).2
          omega
      · rw [if_neg ek]
        exact h.apart j k b hj hk hjk
end Go.Proofs.Ytmckoehkekkldaa
