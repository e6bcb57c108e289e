/- Judging: what the map of known questions holds. -/
import Derived.Test.YtmklpldmgmjlkaaJB
import Derived.Maps.OwnSet
import Derived.DeepKeys4
namespace Go.Proofs.Ytmklpldmgmjlkaa
open Go.RowKit Go.Maps

theorem laidOut : laidOutB Try.prog = true := by kernel_rfl
theorem askedRow : (82 : TypeId) < Try.prog.types.size := of_decide_eq_true (by kernel_rfl)
theorem askedWide : (match Try.prog.underlying 82 with | some (.array _ _) | some (.struct _) => true | _ => false) = true := by rw [Try.underlying82]
set_option maxRecDepth 100000 in
theorem askedKeyed : Keyed Try.prog 82 := Keyed.of_law (deep_law_laid laidOut (m := 3) (by omega) askedRow (by kernel_rfl) askedWide)
theorem askedSize : Try.prog.cellsOf 82 = 3 := by kernel_rfl
theorem stateSize : Try.prog.cellsOf 52 = 2 := by kernel_rfl
theorem intSize : Try.prog.cellsOf 3 = 1 := by kernel_rfl
theorem askedType : Try.prog.keyType 82 = true := by kernel_rfl
theorem typesSize : ∃ m, Try.prog.types.size = m + 2 := ⟨Try.prog.types.size - 2, by
  have : 2 ≤ Try.prog.types.size := of_decide_eq_true (by kernel_rfl)
  omega⟩
theorem wfi (n : Nat) (h : n ≤ 1000) : (Lit.int .i64 (n : Int)).wf = true := by
  have h1 : IntKind.i64.min ≤ 0 := by decide
  have h2 : (1000 : Int) ≤ IntKind.i64.max := by decide
  show (decide (IntKind.i64.min ≤ (n : Int)) && decide ((n : Int) ≤ IntKind.i64.max)) = true
  rw [decide_eq_true (by omega), decide_eq_true (by omega)]
  rfl
def keyL (a b q : Nat) : Lit := .string (keyBytes [.int .i64 (a : Int), .int .i64 (b : Int), .int .i64 (q : Int)])
theorem lits_int (m n : Nat) (h : n ≤ 1000) : Try.prog.keyLits (m + 1) 3 [.int .i64 (n : Int)] = some [.int .i64 (n : Int)] := by
  unfold Program.keyLits
  simp [Try.underlying3, wfi n h]
theorem lits_state (m a b : Nat) (h : a ≤ 1000) (h2 : b ≤ 1000) : Try.prog.keyLits (m + 2) 52 [.int .i64 (a : Int), .int .i64 (b : Int)] = some [.int .i64 (a : Int), .int .i64 (b : Int)] := by
  unfold Program.keyLits
  simp only [Try.underlying52]
  rw [if_pos ⟨by rw [stateSize]; rfl, by simp⟩]
  simp [intSize, lits_int, h, h2]
theorem keyOf_asked (a b q : Nat) (h : a ≤ 1000) (h2 : b ≤ 1000) (h3 : q ≤ 1000) : keyOf Try.prog 82 (.agg #[.int .i64 (a : Int), .int .i64 (b : Int), .int .i64 (q : Int)]) = some (keyL a b q) := by
  obtain ⟨m, hm⟩ := typesSize
  unfold keyOf
  simp only [Try.underlying82]
  rw [if_pos (by simp [askedType, Value.formed, Try.underlying82, askedSize]), hm]
  unfold Program.keyLits
  simp only [Try.underlying82, Value.cells]
  rw [if_pos ⟨by rw [askedSize]; rfl, by simp⟩]
  simp [intSize, stateSize, lits_int, lits_state, h, h2, h3, keyL]
theorem keyL_inj {a b q a' b' q' : Nat} (h1 : a ≤ 1000) (h2 : b ≤ 1000) (h3 : q ≤ 1000) (k1 : a' ≤ 1000) (k2 : b' ≤ 1000) (k3 : q' ≤ 1000) (h : keyL a b q = keyL a' b' q') : a = a' ∧ b = b' ∧ q = q' := by
  have e1 := keyOf_asked a b q h1 h2 h3
  have e2 := keyOf_asked a' b' q' k1 k2 k3
  rw [← h] at e2
  have := askedKeyed.inj e1 e2
  simp at this
  omega
/-- How a question reads. -/
def qD (x y : Int) (b : Bool) : DataW Unit := .agg [.lit (.int .i64 x), .lit (.int .i64 y), .lit (.bool b)]
def qR : Value → Option (DataW Unit × List MemPlace)
  | .agg ⟨[.int .i64 x, .int .i64 y, .bool b]⟩ => some (qD x y b, [])
  | _ => none
theorem qR_mk (x y : Int) (b : Bool) : qR (.agg #[.int .i64 x, .int .i64 y, .bool b]) = some (qD x y b, []) := rfl
theorem qR_inv {v : Value} {x y : Int} {b : Bool} {ps : List MemPlace} (h : qR v = some (qD x y b, ps)) : v = .agg #[.int .i64 x, .int .i64 y, .bool b] := by
  unfold qR at h
  split at h
  · simp [qD] at h
    obtain ⟨⟨rfl, rfl, rfl⟩, -⟩ := h
    rfl
  · cases h
/-- The question of a state that is not settled. -/
def Right (q a b x y : Nat) (ok : Bool) : Prop := ok = en q a b ∧ (ok = true → x ≤ a ∧ y ≤ b ∧ 1 ≤ q ∧ good (q - 1) a b x y = true) ∧ (ok = false → x = 0 ∧ y = 0)
/-- All that is known is right. -/
def Good (D : DataW Unit) : Prop :=
  ∃ es, D = .map es ∧ (∀ a b q : Nat, a + b ≤ 48 → q ≤ 12 → Maps.has D (keyL a b q) = true → ∃ (x y : Nat) (ok : Bool), D.atKey (keyL a b q) (qD 0 0 false) = qD x y ok ∧ Right q a b x y ok) ∧
    ∀ p ∈ es, ∃ a b q : Nat, a ≤ 48 ∧ b ≤ 48 ∧ q ≤ 12 ∧ p.1 = keyL a b q
theorem Good.nil : Good (.map []) := ⟨[], rfl, fun a b q _ _ h => by simp [Maps.has] at h, by simp⟩
theorem keyL_key (a b q : Nat) : WideAt.IsKeyLit (keyL a b q) := trivial
theorem Good.put {D : DataW Unit} (h : Good D) {a b q x y : Nat} {ok : Bool} (hm : a + b ≤ 48) (hq : q ≤ 12) (hr : Right q a b x y ok) : Good (D.put (keyL a b q) (qD x y ok)) := by
  obtain ⟨es, rfl, h1, h2⟩ := h
  have hM : IsMap (.map es : DataW Unit) := ⟨es, rfl⟩
  refine ⟨_, rfl, fun a' b' q' hm' hq' hh => ?_, fun p hp => ?_⟩
  · by_cases e : keyL a' b' q' = keyL a b q
    · obtain ⟨rfl, rfl, rfl⟩ := keyL_inj (by omega) (by omega) (by omega) (by omega) (by omega) (by omega) e
      exact ⟨x, y, ok, atKey_put_same hM (keyL_key _ _ _) _ _, hr⟩
    · have hh' : Maps.has (.map es : DataW Unit) (keyL a' b' q') = true := by
        rw [← has_put_other e (qD x y ok)]; exact hh
      obtain ⟨x', y', ok', e', hr'⟩ := h1 a' b' q' hm' hq' hh'
      exact ⟨x', y', ok', (atKey_put_other e _ _).trans e', hr'⟩
  · rcases ChangeMaps.mem_insert_iff.1 hp with rfl | hp
    · exact ⟨a, b, q, by omega, by omega, hq, rfl⟩
    · exact h2 p (List.mem_filter.1 hp).1
theorem nodup_le {α : Type} : ∀ (l box : List α), l.Nodup → (∀ x ∈ l, x ∈ box) → l.length ≤ box.length
  | [], _, _, _ => by simp
  | x :: r, box, hn, hs => by
    haveI : DecidableEq α := fun a b => Classical.propDecidable (a = b)
    obtain ⟨h1, h2⟩ := List.nodup_cons.1 hn
    have hx : x ∈ box := hs x (by simp)
    have := nodup_le r (box.erase x) h2 (fun y hy => (List.mem_erase_of_ne (fun e => h1 (by rw [← e]; exact hy))).2 (hs y (by simp [hy])))
    rw [List.length_erase_of_mem hx] at this
    have := List.length_pos_of_mem hx
    simp
    omega
def box : List Lit := (List.range 49).flatMap fun a => (List.range 49).flatMap fun b => (List.range 13).map fun q => keyL a b q
theorem box_length : box.length = 31213 := by
  simp [box, List.length_flatMap, List.map_const']
theorem Good.size {D : DataW Unit} (h : Good D) (ht : Tidy D) : ∀ es, D = .map es → es.length ≤ 31213 := by
  obtain ⟨es, rfl, _, h2⟩ := h
  intro es' e
  cases e
  obtain ⟨es', e, hp⟩ := ht
  cases e
  rw [← box_length, ← List.length_map (f := Prod.fst)]
  refine nodup_le _ box ?_ ?_
  · exact List.pairwise_map.2 hp
  · intro x hx
    obtain ⟨p, hp, rfl⟩ := List.mem_map.1 hx
    obtain ⟨a, b, q, ha, hb, hq, e⟩ := h2 p hp
    rw [e]
    simp only [box, List.mem_flatMap, List.mem_map, List.mem_range]
    exact ⟨a, by omega, b, by omega, q, by omega, rfl⟩
/-- The map of what is known. -/
def Known (w : World) (M : Nat) : Prop := ∃ D, Good D ∧ w.ownsMap Try.prog 82 qR M 40000 D
theorem Known.of {w : World} {M n : Nat} {D : DataW Unit} (h : w.ownsMap Try.prog 82 qR M n D) (hG : Good D) : Known w M := by
  have ht := h.tidy askedKeyed
  obtain ⟨es, clock, hb, F, hs, hD⟩ := h
  refine ⟨D, hG, es, clock, hb, F, ?_, hD⟩
  have := hG.size ht _ hD
  rw [length_sorted] at this
  simp at this
  omega
end Go.Proofs.Ytmklpldmgmjlkaa

