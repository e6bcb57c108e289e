/- Marks in a map. -/
import Derived.Test.YtmckoehkekkldaaAU
import Derived.Test.YtmckoehkekkldaaZ
namespace Go.Proofs.Ytmckoehkekkldaa
open Go.RowKit Go.Maps

theorem markRow : (78 : TypeId) < Try.prog.types.size := of_decide_eq_true (by kernel_rfl)
theorem markWide : (match Try.prog.underlying 78 with | some (.array _ _) | some (.struct _) => true | _ => false) = true := by rw [Try.underlying78]
set_option maxRecDepth 100000 in
theorem markKeyed : Keyed Try.prog 78 := Keyed.of_law (deep_law_laid laidOut (m := 3) (by omega) markRow (by kernel_rfl) markWide)
theorem markSize : Try.prog.cellsOf 78 = 3 := by kernel_rfl
theorem intSize : Try.prog.cellsOf 3 = 1 := by kernel_rfl
theorem markType : Try.prog.keyType 78 = true := by kernel_rfl
theorem typesSize : ∃ m, Try.prog.types.size = m + 2 := ⟨Try.prog.types.size - 2, by
  have : 2 ≤ Try.prog.types.size := of_decide_eq_true (by kernel_rfl)
  omega⟩
/-- Numbers of a mark. -/
def Sml (m : M3) : Prop := (-1 ≤ m.1 ∧ m.1 ≤ 1) ∧ (-1 ≤ m.2.1 ∧ m.2.1 ≤ 1) ∧ (-1 ≤ m.2.2 ∧ m.2.2 ≤ 1)
theorem wfi {x : Int} (h : -1 ≤ x ∧ x ≤ 1) : (Lit.int .i64 x).wf = true := by
  have h1 : IntKind.i64.min ≤ -1 := by decide
  have h2 : (1 : Int) ≤ IntKind.i64.max := by decide
  show (decide (IntKind.i64.min ≤ x) && decide (x ≤ IntKind.i64.max)) = true
  rw [decide_eq_true (by omega), decide_eq_true (by omega)]
  rfl
def keyL (m : M3) : Lit := .string (keyBytes [.int .i64 m.1, .int .i64 m.2.1, .int .i64 m.2.2])
theorem lits_int (m : Nat) {x : Int} (h : -1 ≤ x ∧ x ≤ 1) : Try.prog.keyLits (m + 1) 3 [.int .i64 x] = some [.int .i64 x] := by
  unfold Program.keyLits
  simp [Try.underlying3, wfi h]
theorem keyOf_mark (m : M3) (h : Sml m) : keyOf Try.prog 78 (.agg #[.int .i64 m.1, .int .i64 m.2.1, .int .i64 m.2.2]) = some (keyL m) := by
  obtain ⟨k, hk⟩ := typesSize
  obtain ⟨h1, h2, h3⟩ := h
  unfold keyOf
  simp only [Try.underlying78]
  rw [if_pos (by simp [markType, Value.formed, Try.underlying78, markSize]), hk]
  unfold Program.keyLits
  simp only [Try.underlying78, Value.cells]
  have hr : List.range 3 = [0, 1, 2] := rfl
  simp [markSize, intSize, hr, lits_int, h1, h2, h3, keyL]
theorem keyL_inj {a b : M3} (ha : Sml a) (hb : Sml b) (h : keyL a = keyL b) : a = b := by
  have e1 := keyOf_mark a ha
  have e2 := keyOf_mark b hb
  rw [← h] at e2
  have := markKeyed.inj e1 e2
  simp at this
  exact Prod.ext this.1 (Prod.ext this.2.1 this.2.2)
theorem keyL_key (f : M3) : WideAt.IsKeyLit (keyL f) := trivial
def yesD : DataW Unit := .lit (.bool true)
def bR : Value → Option (DataW Unit × List MemPlace)
  | .bool b => some (.lit (.bool b), [])
  | _ => none
theorem bR_mk (b : Bool) : bR (.bool b) = some (.lit (.bool b), []) := rfl
theorem snocRec {α : Type} {P : List α → Prop} (h0 : P []) (h1 : ∀ l x, P l → P (l ++ [x])) (l : List α) : P l := by
  rw [← List.reverse_reverse l]
  induction l.reverse with
  | nil => exact h0
  | cons x r ih => rw [List.reverse_cons]; exact h1 _ _ ih
def SmallM (G : List M3) : Prop := ∀ f ∈ G, Sml f
theorem sameKey_iff {a b : M3} (ha : Sml a) (hb : Sml b) : (keyL a).sameKey (keyL b) = decide (a = b) := by
  by_cases h : a = b
  · subst h
    rw [decide_eq_true rfl]
    simp [Lit.sameKey, keyL]
  · rw [decide_eq_false h]
    exact sameKey_ne fun e => h (keyL_inj ha hb e)
theorem has_keys {G : List M3} (hG : SmallM G) (f : M3) (hf : Sml f) : Maps.has (setOf yesD (G.map keyL)) (keyL f) = decide (f ∈ G) := by
  rw [has_setOf _ _ _ (fun x hx => by obtain ⟨g, _, rfl⟩ := List.mem_map.1 hx; exact keyL_key g)]
  rw [List.any_map, Bool.eq_iff_iff, List.any_eq_true, decide_eq_true_iff]
  constructor
  · rintro ⟨g, hg, h⟩
    rw [Function.comp, sameKey_iff (hG g hg) hf, decide_eq_true_eq] at h
    rw [← h]; exact hg
  · intro h
    exact ⟨f, h, by rw [Function.comp, sameKey_iff (hG f h) hf, decide_eq_true rfl]⟩
theorem size_keys {G : List M3} (hG : SmallM G) : Maps.size (setOf yesD (G.map keyL)) = cntD G := by
  revert hG
  refine snocRec (P := fun G => SmallM G → Maps.size (setOf yesD (G.map keyL)) = cntD G) ?_ ?_ G
  · intro _; rfl
  · intro G g ih hG
    have hg : Sml g := hG g (by simp)
    have hG' : SmallM G := fun x hx => hG x (by simp [hx])
    rw [List.map_append, List.map_cons, List.map_nil, setOf_snoc, size_put (tidy_setOf _ _ (fun x hx => by obtain ⟨g, _, rfl⟩ := List.mem_map.1 hx; exact keyL_key g)), has_keys hG' g hg, ih hG', cntD_app]
    by_cases h : g ∈ G <;> simp [h]
/-- The map M holds just the marks G. -/
def MM (w : World) (M : Nat) (G : List M3) : Prop := SmallM G ∧ w.ownsMap Try.prog 78 bR M 1000 (setOf yesD (G.map keyL))
theorem MM.bel {w w' : World} {M : Nat} {G : List M3} (h : MM w M G) (hb : Bel w w') : MM w' M G :=
  ⟨h.1, h.2.kept (row := none) ⟨hb.os, hb.tape, hb.output, hb.size, fun k hk _ => hb.block k hk⟩ (by simp)⟩
theorem MM.lt {w : World} {M : Nat} {G : List M3} (h : MM w M G) : M < w.heap.size := h.2.lt
theorem MM.of {w : World} {M n : Nat} {G : List M3} (h : w.ownsMap Try.prog 78 bR M n (setOf yesD (G.map keyL))) (hG : SmallM G) (hl : G.length ≤ 1000) : MM w M G := by
  obtain ⟨es, clock, hb, F, hs, hD⟩ := h
  refine ⟨hG, es, clock, hb, F, ?_, hD⟩
  have h1 := size_keys hG
  rw [hD, size_eq, length_read] at h1
  have := cntD_le G
  omega
theorem MM.made (w : World) : MM (w.alloc (.map #[] 0)) w.heap.size [] := ⟨(fun f hf => by cases hf), (World.ownsMap_made w Try.prog 78 bR).mono (Nat.zero_le _)⟩
theorem MM.put {w w3 : World} {M : Nat} {G : List M3} {f : M3} (h : MM w M G) (hf : Sml f) (hl : G.length < 1000)
    (hown : w3.ownsMap Try.prog 78 bR M (1000 + 1) ((setOf yesD (G.map keyL)).put (keyL f) yesD)) : MM w3 M (G ++ [f]) := by
  refine MM.of (n := 1000 + 1) ?_ (fun x hx => ?_) (by simp; omega)
  · rw [List.map_append, List.map_cons, List.map_nil, setOf_snoc]; exact hown
  · rcases List.mem_append.1 hx with hx | hx
    · exact h.1 x hx
    · obtain rfl := List.mem_singleton.1 hx; exact hf
theorem MM.len {w : World} {M : Nat} {G : List M3} (h : MM w M G) (ty : TypeId) : (Builtin.len_ #[97] ty #[.map (some M)]).run Try.prog w = .ok (.int .i64 (cntD G)) w := by
  have := h.2.len Try.underlying97 ty
  rw [size_keys h.1] at this
  exact this
theorem sml_zero : Sml (0, 0, 0) := by unfold Sml; simp
theorem sml_ans (P : List Wg) (x y : Int) (hy : y = 1 ∨ y = -1) : Sml (ansM P (x, y)) := by
  unfold Sml ansM
  have h := ansN_cases P x y hy
  have h0 := h 0
  have h1 := h 1
  have h2 := h 2
  simp only
  omega
end Go.Proofs.Ytmckoehkekkldaa
