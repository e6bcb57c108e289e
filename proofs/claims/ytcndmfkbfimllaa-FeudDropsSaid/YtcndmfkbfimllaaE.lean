/- Feuds in a map: what the map holds, and what it answers. -/
import Derived.Test.YtcndmfkbfimllaaD
import Derived.Maps.OwnSet
import Derived.DeepKeys4
namespace Go.Proofs.Ytcndmfkbfimllaa
open Go.RowKit Go.Maps

theorem laidOut : laidOutB Try.prog = true := by kernel_rfl
theorem feudRow : (45 : TypeId) < Try.prog.types.size := of_decide_eq_true (by kernel_rfl)
theorem feudWide : (match Try.prog.underlying 45 with | some (.array _ _) | some (.struct _) => true | _ => false) = true := by rw [Try.underlying45]
set_option maxRecDepth 100000 in
theorem feudKeyed : Keyed Try.prog 45 := Keyed.of_law (deep_law_laid laidOut (m := 3) (by omega) feudRow (by kernel_rfl) feudWide)
theorem feudSize : Try.prog.cellsOf 45 = 2 := by kernel_rfl
theorem intSize : Try.prog.cellsOf 3 = 1 := by kernel_rfl
theorem feudType : Try.prog.keyType 45 = true := by kernel_rfl
theorem typesSize : ∃ m, Try.prog.types.size = m + 2 := ⟨Try.prog.types.size - 2, by
  have : 2 ≤ Try.prog.types.size := of_decide_eq_true (by kernel_rfl)
  omega⟩
theorem wfi (n : Nat) (h : n ≤ 1000) : (Lit.int .i64 (n : Int)).wf = true := by
  have h1 : IntKind.i64.min ≤ 0 := by decide
  have h2 : (1000 : Int) ≤ IntKind.i64.max := by decide
  show (decide (IntKind.i64.min ≤ (n : Int)) && decide ((n : Int) ≤ IntKind.i64.max)) = true
  rw [decide_eq_true (by omega), decide_eq_true (by omega)]
  rfl
def keyL (f : Nat × Nat) : Lit := .string (keyBytes [.int .i64 (f.1 : Int), .int .i64 (f.2 : Int)])
theorem lits_int (m n : Nat) (h : n ≤ 1000) : Try.prog.keyLits (m + 1) 3 [.int .i64 (n : Int)] = some [.int .i64 (n : Int)] := by
  unfold Program.keyLits
  simp [Try.underlying3, wfi n h]
theorem keyOf_feud (a b : Nat) (h : a ≤ 1000) (h2 : b ≤ 1000) : keyOf Try.prog 45 (.agg #[.int .i64 (a : Int), .int .i64 (b : Int)]) = some (keyL (a, b)) := by
  obtain ⟨m, hm⟩ := typesSize
  unfold keyOf
  simp only [Try.underlying45]
  rw [if_pos (by simp [feudType, Value.formed, Try.underlying45, feudSize]), hm]
  unfold Program.keyLits
  simp only [Try.underlying45, Value.cells]
  rw [if_pos ⟨by rw [feudSize]; rfl, by simp⟩]
  simp [intSize, lits_int, h, h2, keyL]
theorem keyL_inj {a b a' b' : Nat} (h1 : a ≤ 1000) (h2 : b ≤ 1000) (k1 : a' ≤ 1000) (k2 : b' ≤ 1000) (h : keyL (a, b) = keyL (a', b')) : a = a' ∧ b = b' := by
  have e1 := keyOf_feud a b h1 h2
  have e2 := keyOf_feud a' b' k1 k2
  rw [← h] at e2
  have := feudKeyed.inj e1 e2
  simp at this
  omega
theorem keyL_key (f : Nat × Nat) : WideAt.IsKeyLit (keyL f) := trivial
/-- The numbers of the feuds are small. -/
def Small (G : List (Nat × Nat)) : Prop := ∀ f ∈ G, f.1 ≤ 1000 ∧ f.2 ≤ 1000
def yesD : DataW Unit := .lit (.bool true)
def noD : DataW Unit := .lit (.bool false)
def bR : Value → Option (DataW Unit × List MemPlace)
  | .bool b => some (.lit (.bool b), [])
  | _ => none
theorem bR_mk (b : Bool) : bR (.bool b) = some (.lit (.bool b), []) := rfl
theorem bR_inv {v : Value} {b : Bool} {ps : List MemPlace} (h : bR v = some (.lit (.bool b), ps)) : v = .bool b := by
  unfold bR at h
  split at h
  · simp at h
    rw [h.1]
  · cases h
theorem snocRec {α : Type} {P : List α → Prop} (h0 : P []) (h1 : ∀ l x, P l → P (l ++ [x])) (l : List α) : P l := by
  rw [← List.reverse_reverse l]
  induction l.reverse with
  | nil => exact h0
  | cons x r ih => rw [List.reverse_cons]; exact h1 _ _ ih
/-- The map M holds just the feuds G. -/
def FM (w : World) (M : Nat) (G : List (Nat × Nat)) : Prop := Small G ∧ w.ownsMap Try.prog 45 bR M 1000 (setOf yesD (G.map keyL))
theorem FM.bel {w w' : World} {M : Nat} {G : List (Nat × Nat)} (h : FM w M G) (hb : Bel w w') : FM w' M G :=
  ⟨h.1, h.2.kept (row := none) ⟨hb.os, hb.tape, hb.output, hb.size, fun k hk _ => hb.block k hk⟩ (by simp)⟩
theorem FM.lt {w : World} {M : Nat} {G : List (Nat × Nat)} (h : FM w M G) : M < w.heap.size := h.2.lt
theorem sameKey_iff {a b : Nat × Nat} (ha : a.1 ≤ 1000 ∧ a.2 ≤ 1000) (hb : b.1 ≤ 1000 ∧ b.2 ≤ 1000) : (keyL a).sameKey (keyL b) = decide (a = b) := by
  by_cases h : a = b
  · subst h
    rw [decide_eq_true rfl]
    simp [Lit.sameKey, keyL]
  · rw [decide_eq_false h]
    refine sameKey_ne fun e => h ?_
    obtain ⟨e1, e2⟩ := keyL_inj (a := a.1) (b := a.2) (a' := b.1) (b' := b.2) ha.1 ha.2 hb.1 hb.2 e
    exact Prod.ext e1 e2
theorem has_keys {G : List (Nat × Nat)} (hG : Small G) (f : Nat × Nat) (hf : f.1 ≤ 1000 ∧ f.2 ≤ 1000) : Maps.has (setOf yesD (G.map keyL)) (keyL f) = G.contains f := by
  rw [has_setOf _ _ _ (fun x hx => by obtain ⟨g, _, rfl⟩ := List.mem_map.1 hx; exact keyL_key g)]
  rw [List.any_map, Bool.eq_iff_iff, List.any_eq_true, List.contains_iff_mem]
  constructor
  · rintro ⟨g, hg, h⟩
    rw [Function.comp, sameKey_iff (hG g hg) hf, decide_eq_true_eq] at h
    rw [← h]; exact hg
  · intro h
    exact ⟨f, h, by rw [Function.comp, sameKey_iff (hG f h) hf, decide_eq_true rfl]⟩
theorem at_keys {G : List (Nat × Nat)} (hG : Small G) (f : Nat × Nat) (hf : f.1 ≤ 1000 ∧ f.2 ≤ 1000) : (setOf yesD (G.map keyL)).atKey (keyL f) noD = .lit (.bool (G.contains f)) := by
  revert hG
  refine snocRec (P := fun G => Small G → (setOf yesD (G.map keyL)).atKey (keyL f) noD = .lit (.bool (G.contains f))) ?_ ?_ G
  · intro _; rfl
  · intro G g ih hG
    have hg : g.1 ≤ 1000 ∧ g.2 ≤ 1000 := hG g (by simp)
    have hM : IsMap (setOf yesD (G.map keyL)) := (tidy_setOf _ _ (fun x hx => by obtain ⟨g, _, rfl⟩ := List.mem_map.1 hx; exact keyL_key g)).isMap
    rw [List.map_append, List.map_cons, List.map_nil, setOf_snoc]
    by_cases e : f = g
    · subst e
      rw [atKey_put_same hM (keyL_key _)]
      simp [yesD]
    · rw [atKey_put_other (fun h => e (by obtain ⟨e1, e2⟩ := keyL_inj (a := f.1) (b := f.2) (a' := g.1) (b' := g.2) hf.1 hf.2 hg.1 hg.2 h; exact Prod.ext e1 e2)), ih (fun x hx => hG x (by simp [hx]))]
      have : (G ++ [g]).contains f = G.contains f := by
        rw [Bool.eq_iff_iff, List.contains_iff_mem, List.contains_iff_mem]
        simp [e]
      rw [this]
/-- How many feuds the map holds. -/
def sizeK : List (Nat × Nat) → Nat
  | [] => 0
  | f :: G => if G.contains f then sizeK G else sizeK G + 1
theorem sizeK_le (G : List (Nat × Nat)) : sizeK G ≤ G.length := by
  induction G with
  | nil => exact Nat.le_refl _
  | cons f G ih => rw [sizeK, List.length_cons]; split <;> omega
theorem sizeK_nodup (G : List (Nat × Nat)) : sizeK G = G.length ↔ G.Nodup := by
  induction G with
  | nil => simp [sizeK]
  | cons f G ih =>
    have := sizeK_le G
    rw [sizeK, List.length_cons, List.nodup_cons, ← ih]
    split
    · rename_i h
      rw [List.contains_iff_mem] at h
      constructor
      · intro h2; omega
      · intro h2; exact absurd h h2.1
    · rename_i h
      rw [Bool.not_eq_true, Bool.eq_false_iff, Ne, List.contains_iff_mem] at h
      constructor
      · intro h2; exact ⟨h, by omega⟩
      · intro h2; omega
theorem sizeK_app (G : List (Nat × Nat)) (f : Nat × Nat) : sizeK (G ++ [f]) = if G.contains f then sizeK G else sizeK G + 1 := by
  induction G with
  | nil => rfl
  | cons g G ih =>
    rw [List.cons_append, sizeK, sizeK, ih]
    by_cases e : f = g
    · subst e
      simp
    · have h1 : (G ++ [f]).contains g = G.contains g := by
        rw [Bool.eq_iff_iff, List.contains_iff_mem, List.contains_iff_mem]
        simp [Ne.symm e]
      have h2 : (g :: G).contains f = G.contains f := by
        rw [Bool.eq_iff_iff, List.contains_iff_mem, List.contains_iff_mem]
        simp [e]
      rw [h1, h2]
      split <;> split <;> simp_all
theorem size_keys {G : List (Nat × Nat)} (hG : Small G) : Maps.size (setOf yesD (G.map keyL)) = sizeK G := by
  revert hG
  refine snocRec (P := fun G => Small G → Maps.size (setOf yesD (G.map keyL)) = sizeK G) ?_ ?_ G
  · intro _; rfl
  · intro G g ih hG
    have hg : g.1 ≤ 1000 ∧ g.2 ≤ 1000 := hG g (by simp)
    have hG' : Small G := fun x hx => hG x (by simp [hx])
    rw [List.map_append, List.map_cons, List.map_nil, setOf_snoc, size_put (tidy_setOf _ _ (fun x hx => by obtain ⟨g, _, rfl⟩ := List.mem_map.1 hx; exact keyL_key g)), has_keys hG' g hg, ih hG', sizeK_app]
end Go.Proofs.Ytcndmfkbfimllaa
