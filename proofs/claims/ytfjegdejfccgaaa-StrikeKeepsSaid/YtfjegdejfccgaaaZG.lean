/- reduced: the state of its loop. -/
import Derived.Test.YtfjegdejfccgaaaZF
namespace Go.Proofs.Ytfjegdejfccgaaa
open Go.RowKit

def elimF (G : Nat → Nat → Int) (row c : Nat) : Nat → Nat → Int := fun j => if j = row then G j else loF (clD (G j) (G row) c)
/-- One column of reduced. -/
def redS (m : Nat) (S : (Nat → Nat → Int) × List Int) (c : Nat) : (Nat → Nat → Int) × List Int :=
  if findB S.1 c S.2.length (m - S.2.length) < 0 then S
  else (elimF (swapF S.1 S.2.length (S.2.length + (findB S.1 c S.2.length (m - S.2.length)).toNat)) S.2.length c, S.2 ++ [(c : Int)])
def redTo (F : Nat → Nat → Int) (m : Nat) : Nat → (Nat → Nat → Int) × List Int
  | 0 => (F, [])
  | c + 1 => redS m (redTo F m c) c
theorem findB_in (F : Nat → Nat → Int) (c r : Nat) : ∀ k, findB F c r k = -1 ∨ (0 ≤ findB F c r k ∧ findB F c r k < (k : Int))
  | 0 => .inl rfl
  | k + 1 => by
    simp only [findB]
    rcases findB_in F c r k with h | h
    · rw [h, if_neg (by simp)]
      by_cases e : F (r + k) c = 0
      · rw [if_pos e]; exact .inl rfl
      · rw [if_neg e]; right; omega
    · rw [if_pos (by omega)]; right; omega
theorem redS_no {m : Nat} {S : (Nat → Nat → Int) × List Int} {c : Nat} (h : findB S.1 c S.2.length (m - S.2.length) < 0) : redS m S c = S := by unfold redS; rw [if_pos h]
theorem redS_yes {m : Nat} {S : (Nat → Nat → Int) × List Int} {c b : Nat} (h : findB S.1 c S.2.length (m - S.2.length) = (b : Int)) : redS m S c = (elimF (swapF S.1 S.2.length (S.2.length + b)) S.2.length c, S.2 ++ [(c : Int)]) := by
  unfold redS; rw [if_neg (by omega), h]; rfl
theorem redTo_len (F : Nat → Nat → Int) (m : Nat) : ∀ c, (redTo F m c).2.length ≤ c ∧ (redTo F m c).2.length ≤ m
  | 0 => ⟨Nat.zero_le _, Nat.zero_le _⟩
  | c + 1 => by
    obtain ⟨h1, h2⟩ := redTo_len F m c
    simp only [redTo]
    rcases findB_in (redTo F m c).1 c (redTo F m c).2.length (m - (redTo F m c).2.length) with h | ⟨h, h'⟩
    · rw [redS_no (by omega)]; exact ⟨by omega, h2⟩
    · obtain ⟨b, hb⟩ : ∃ b : Nat, findB (redTo F m c).1 c (redTo F m c).2.length (m - (redTo F m c).2.length) = (b : Int) := ⟨_, (Int.toNat_of_nonneg h).symm⟩
      rw [redS_yes hb]
      simp only [List.length_append, List.length_cons, List.length_nil]
      omega
theorem own_far {w w' : World} {base e s n : Nat} {v : Value} {xs : List Value} (h : w.ownsRow base e s v n xs) (hb : ∀ k, v.ownBlock = some k → w'.heap[k]? = w.heap[k]?) : w'.ownsRow base e s v n xs := by
  refine ⟨h.1, ?_⟩
  rcases h.2 with hn | ⟨g, cap, cur, rfl, h1, hg, rest⟩
  · exact .inl hn
  · exact .inr ⟨g, cap, cur, rfl, h1, by rw [hb g rfl]; exact hg, rest⟩
/-- The lines, and the columns that were found. -/
structure RI (w0 wr : World) (g m base : Nat) (G : Nat → Nat → Int) (v : Value) (cols : List Int) : Prop where
  bel : Bel w0 wr
  mat : Mat wr g m G
  own : Own1 3 base wr v cols
  gb : g < base
  bs : base ≤ wr.heap.size
  lo : w0.heap.size ≤ g
theorem RI.beL {w0 wr w' : World} {g m base : Nat} {G : Nat → Nat → Int} {v : Value} {cols : List Int} (h : RI w0 wr g m base G v cols) (hb : Bel wr w') : RI w0 w' g m base G v cols :=
  ⟨h.bel.trans hb, h.mat.bel hb, h.own.bel hb, h.gb, Nat.le_trans h.bs hb.size, h.lo⟩
theorem putL_heap (w : World) (g j : Nat) (f : Nat → Int) (k : Nat) (hk : k ≠ g) : (putL w g j f).heap[k]? = w.heap[k]? := by
  rw [Below.heap_setCell _ _ _ _ hk, Below.heap_setCell _ _ _ _ hk, Below.heap_setCell _ _ _ _ hk, Below.heap_setCell _ _ _ _ hk, Below.heap_setCell _ _ _ _ hk, Below.heap_setCell _ _ _ _ hk]
theorem putL_size (w : World) (g j : Nat) (f : Nat → Int) : (putL w g j f).heap.size = w.heap.size := by simp [World.setCell]
theorem RI.put {w0 wr : World} {g m base : Nat} {G : Nat → Nat → Int} {v : Value} {cols : List Int} (h : RI w0 wr g m base G v cols) {j : Nat} (hj : j < m) (f : Nat → Int) : RI w0 (putL wr g j f) g m base (fun a => if a = j then f else G a) v cols :=
  ⟨belL j f h.bel h.lo, h.mat.line hj f, own_far h.own (fun k hk => putL_heap _ _ _ _ _ (by have := (World.ownsRow.lt h.own k hk).1; have := h.gb; omega)), h.gb, by rw [putL_size]; exact h.bs, h.lo⟩
theorem RI.congr {w0 wr : World} {g m base : Nat} {G G' : Nat → Nat → Int} {v : Value} {cols : List Int} (h : RI w0 wr g m base G v cols) (e : ∀ j i, j < m → i < 6 → G' j i = G j i) : RI w0 wr g m base G' v cols :=
  ⟨h.bel, h.mat.congr e, h.own, h.gb, h.bs, h.lo⟩
theorem RI.snoc {w0 wr W w3 : World} {g m base : Nat} {G : Nat → Nat → Int} {v v' : Value} {cols : List Int} {a : Int} (h : RI w0 wr g m base G v cols) (hW : Bel wr W)
    (hown : w3.ownsRow base 3 1 v' (cols.length + 1) ((cols.map fun x => .int .i64 x) ++ [.int .i64 a])) (hg : W.grownBy w3 v.ownBlock) : RI w0 w3 g m base G v' (cols ++ [a]) := by
  have hgb := h.gb; have hlo := h.lo
  refine ⟨grown_own (h.bel.trans hW) h.own (by omega) hg, (h.mat.bel hW).of_block hg.size (hg.block g (Nat.lt_of_lt_of_le h.mat.lt hW.size) (fun e => by have := (World.ownsRow.lt h.own g e.symm).1; omega)), Own1.snoc hown, h.gb, Nat.le_trans h.bs (Nat.le_trans hW.size hg.size), h.lo⟩
/-- Lines of which the first ones are done. -/
def midF (S E : Nat → Nat → Int) (q : Nat) : Nat → Nat → Int := fun j => if j < q then E j else S j
theorem midF_zero (S E : Nat → Nat → Int) : midF S E 0 = S := by funext j; unfold midF; rw [if_neg (by omega)]
theorem midF_at (S E : Nat → Nat → Int) (q : Nat) : midF S E q q = S q := by unfold midF; rw [if_neg (Nat.lt_irrefl q)]
theorem midF_next (S E : Nat → Nat → Int) (q : Nat) : (fun a => if a = q then E q else midF S E q a) = midF S E (q + 1) := by
  funext a
  unfold midF
  by_cases h : a = q
  · subst h; rw [if_pos rfl, if_pos (by omega)]
  · rw [if_neg h]
    by_cases h2 : a < q
    · rw [if_pos h2, if_pos (by omega)]
    · rw [if_neg h2, if_neg (by omega)]
theorem midF_same {S E : Nat → Nat → Int} {q : Nat} (h : E q = S q) : midF S E (q + 1) = midF S E q := by
  funext a
  unfold midF
  by_cases h2 : a = q
  · subst h2; rw [if_pos (by omega), if_neg (by omega), h]
  · by_cases h3 : a < q
    · rw [if_pos (by omega), if_pos h3]
    · rw [if_neg (by omega), if_neg h3]
theorem midF_keep {S E : Nat → Nat → Int} {q r : Nat} (h : E r = S r) : midF S E q r = S r := by
  unfold midF
  split
  · exact h
  · rfl
theorem elim_row (S : Nat → Nat → Int) (r c : Nat) : elimF S r c r = S r := by unfold elimF; rw [if_pos rfl]
theorem elim_at (S : Nat → Nat → Int) {r c q : Nat} (h : q ≠ r) : elimF S r c q = loF (clD (S q) (S r) c) := by unfold elimF; rw [if_neg h]
theorem drew_heap (v : World) : v.drew.heap = v.heap := rfl
theorem swapped_keep {w w' : World} {g a b P : Nat} {f h : Nat → Int} (e : w' = (putL (putL w g a f) g b h).drew) (hP : P ≠ g) : w'.heap[P]? = w.heap[P]? := by
  have h1 := putL_heap w g a f P hP
  have h2 := putL_heap (putL w g a f) g b h P hP
  generalize putL (putL w g a f) g b h = u at *
  rw [e, drew_heap, h2, h1]
theorem swapped_size {w w' : World} {g a b : Nat} {f h : Nat → Int} (e : w' = (putL (putL w g a f) g b h).drew) : w'.heap.size = w.heap.size := by
  have h1 := putL_size w g a f
  have h2 := putL_size (putL w g a f) g b h
  generalize putL (putL w g a f) g b h = u at *
  rw [e, drew_heap, h2, h1]
theorem swapped_cell {w w' : World} {g a b P o : Nat} {f h : Nat → Int} {v : Value} (e : w' = (putL (putL w g a f) g b h).drew) (hP : P ≠ g) (hc : w.cell? ⟨P, o, none⟩ = some v) : w'.cell? ⟨P, o, none⟩ = some v := by
  rw [World.cell?_of_block (w := w) (a := ⟨P, o, none⟩) (swapped_keep e hP)]
  exact hc
theorem RI.swap {w0 w w' : World} {g m base a b : Nat} {G : Nat → Nat → Int} {v : Value} {cols : List Int} (h : RI w0 w g m base G v cols) (ha : a < m) (hb : b < m) (e : w' = (putL (putL w g a (G b)) g b (G a)).drew) : RI w0 w' g m base (swapF G a b) v cols := by
  subst e
  exact ((h.put (j := a) ha (G b)).put (j := b) hb (G a)).beL ((Bel.refl _).drew)
theorem swap_put {G : Nat → Nat → Int} (a b : Nat) : (fun x => if x = b then G a else if x = a then G b else G x) = swapF G a b := rfl
end Go.Proofs.Ytfjegdejfccgaaa
