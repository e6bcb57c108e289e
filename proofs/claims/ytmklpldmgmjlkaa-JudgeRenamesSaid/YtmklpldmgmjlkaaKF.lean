/- Answers with their spare cells: kept. -/
import Derived.Test.YtmklpldmgmjlkaaKE
namespace Go.Proofs.Ytmklpldmgmjlkaa
open Go.RowKit

/-- All cells of what an answer named, how many of them are elements, and what it said. -/
abbrev AnZ := List Int × Nat × Bool
def vis (z : AnZ) : An := (z.1.take z.2.1, z.2.2)
def full (z : AnZ) : An := (z.1, z.2.2)
/-- The slice at A reads as the answers Z, with their spare cells. -/
def AnsZ (w : World) (A : Option Addr) (Z : List AnZ) : Prop :=
  Z = [] ∨ ∃ b o, A = some ⟨b, o, none⟩ ∧ b < w.heap.size ∧ ∀ (j : Nat) (zs : List Int) (m : Nat) (y : Bool), Z[j]? = some (zs, m, y) →
    ∃ A' c', w.cell? ⟨b, o + j * 2, none⟩ = some (.slice A' m c') ∧ w.cell? ⟨b, o + j * 2 + 1, none⟩ = some (.bool y) ∧ Ints w A' zs ∧ zs.length = c' ∧ m ≤ c' ∧ (A' = none → c' = 0) ∧ c' * 8 ≤ reachN
theorem AnsZ.bel {w w' : World} {A : Option Addr} {Z : List AnZ} (h : AnsZ w A Z) (hb : Bel w w') : AnsZ w' A Z := by
  rcases h with h | ⟨b, o, rfl, hl, hc⟩
  · exact .inl h
  · refine .inr ⟨b, o, rfl, Nat.lt_of_lt_of_le hl hb.use.2.2, fun j zs m y hj => ?_⟩
    obtain ⟨A', c', h1, h2, h3, h4⟩ := hc j zs m y hj
    exact ⟨A', c', by rw [hb.use.1 _ _ hl]; exact h1, by rw [hb.use.1 _ _ hl]; exact h2, h3.bel hb, h4⟩
theorem AnsZ.at_ {w : World} {A : Option Addr} {Z : List AnZ} (h : AnsZ w A Z) {k : Nat} (hk : k < Z.length) :
    ∃ b o zs m y A' c', A = some ⟨b, o, none⟩ ∧ b < w.heap.size ∧ Z[k]? = some (zs, m, y) ∧ w.cell? ⟨b, o + k * 2, none⟩ = some (.slice A' m c') ∧ w.cell? ⟨b, o + k * 2 + 1, none⟩ = some (.bool y) ∧ Ints w A' zs ∧ zs.length = c' ∧ m ≤ c' ∧ (A' = none → c' = 0) ∧ c' * 8 ≤ reachN := by
  rcases h with rfl | ⟨b, o, rfl, hl, hc⟩
  · simp at hk
  · have hg' : Z[k]? = some (Z[k].1, Z[k].2.1, Z[k].2.2) := by rw [List.getElem?_eq_getElem hk]
    obtain ⟨A', c', h1, h2, h3, h4⟩ := hc k _ _ _ hg'
    exact ⟨b, o, _, _, _, A', c', rfl, hl, hg', h1, h2, h3, h4⟩
theorem AnsZ.ans {w : World} {A : Option Addr} {Z : List AnZ} (h : AnsZ w A Z) (n : Nat) : Ans w A ((Z.take n).map vis) := by
  rcases h with rfl | ⟨b, o, rfl, hl, hc⟩
  · exact .inl (by simp)
  · refine .inr ⟨b, o, rfl, hl, fun j ns y hj => ?_⟩
    simp only [List.getElem?_map, Option.map_eq_some_iff] at hj
    obtain ⟨⟨zs, m, y'⟩, hz, he⟩ := hj
    simp only [vis, Prod.mk.injEq] at he
    obtain ⟨rfl, rfl⟩ := he
    have hz' : Z[j]? = some (zs, m, y') := by
      rw [List.getElem?_take] at hz
      split at hz
      · exact hz
      · cases hz
    obtain ⟨A', c', h1, h2, h3, h4, h5, _, h7⟩ := hc j zs m y' hz'
    exact ⟨A', m, c', h1, h2, h3.take m, by rw [List.length_take]; omega, Nat.le_trans h5 (reachN_le h7 (by omega)).2⟩

/-- The slice v is the call's own, from block 'base' on, and holds the answers L, whose sets lie elsewhere: its cells are vs. -/
structure OwnV (base : Nat) (w : World) (v : Value) (L : List An) (vs : List Value) : Prop where
  own : w.ownsRow base 30 2 v L.length vs
  len : vs.length = L.length * 2
  els : ∀ (j : Nat) (ns : List Int) (y : Bool), L[j]? = some (ns, y) → ∃ A' n' c', vs[j * 2]? = some (.slice A' n' c') ∧ vs[j * 2 + 1]? = some (.bool y) ∧ Ints w A' ns ∧ ns.length = n' ∧ n' ≤ maxLen ∧ ∀ b o, A' = some ⟨b, o, none⟩ → b < w.heap.size ∧ v.ownBlock ≠ some b
def OwnA (base : Nat) (w : World) (v : Value) (L : List An) : Prop := ∃ vs, OwnV base w v L vs
theorem OwnA.nil (base : Nat) (w : World) : OwnA base w (.slice none 0 0) [] := ⟨[], World.ownsRow_nil _ _ _ _, rfl, fun j ns y hj => by simp at hj⟩
theorem OwnV.bel {base : Nat} {w w' : World} {v : Value} {L : List An} {vs : List Value} (h : OwnV base w v L vs) (hb : Bel w w') : OwnV base w' v L vs := by
  refine ⟨World.ownsRow.kept (row := none) h.own ⟨hb.os, hb.tape, hb.output, hb.size, fun k hk _ => hb.block k hk⟩ ?_, h.len, fun j ns y hj => ?_⟩
  · cases hv : v.ownBlock with
    | none => exact .inl rfl
    | some k => exact .inr (by simp)
  · obtain ⟨A', n', c', h1, h2, h3, h4, h5, h6⟩ := h.els j ns y hj
    exact ⟨A', n', c', h1, h2, h3.bel hb, h4, h5, fun b o hA => ⟨Nat.lt_of_lt_of_le (h6 b o hA).1 hb.size, (h6 b o hA).2⟩⟩
theorem OwnA.bel {base : Nat} {w w' : World} {v : Value} {L : List An} (h : OwnA base w v L) (hb : Bel w w') : OwnA base w' v L := by
  obtain ⟨vs, h⟩ := h
  exact ⟨vs, h.bel hb⟩
theorem Ints.grown {w w' : World} {A : Option Addr} {ns : List Int} {row : Option Nat} (h : Ints w A ns) (hg : w.grownBy w' row) (hne : ∀ b o, A = some ⟨b, o, none⟩ → row ≠ some b) : Ints w' A ns := by
  rcases h with h | ⟨b, o, rfl, hl, hc⟩
  · exact .inl h
  · refine .inr ⟨b, o, rfl, Nat.lt_of_lt_of_le hl hg.size, fun j v hj => ?_⟩
    rw [World.cell?_of_block (w := w) (hg.block b hl (fun e => hne b o rfl e.symm))]
    exact hc j v hj
theorem OwnV.snoc {base g cap : Nat} {w w3 : World} {v : Value} {L : List An} {vs : List Value} {ns : List Int} {y : Bool} {A' : Option Addr} {n' c' : Nat} (h : OwnV base w v L vs) (hI : Ints w A' ns) (hn : ns.length = n') (hm : n' ≤ maxLen)
    (hf : ∀ b o, A' = some ⟨b, o, none⟩ → b < w.heap.size ∧ v.ownBlock ≠ some b)
    (hown : w3.ownsRow base 30 2 (.slice (some ⟨g, 0, none⟩) (L.length + 1) cap) (L.length + 1) (vs ++ [.slice A' n' c', .bool y])) (hg : w.grownBy w3 v.ownBlock) (hat : v.ownBlock = some g ∨ g = w.heap.size) :
    OwnA base w3 (.slice (some ⟨g, 0, none⟩) (L.length + 1) cap) (L ++ [(ns, y)]) := by
  refine ⟨vs ++ [.slice A' n' c', .bool y], by simpa using hown, by simp [h.len]; omega, fun j ms z hj => ?_⟩
  have hlv := h.len
  by_cases hjl : j < L.length
  · rw [List.getElem?_append_left hjl] at hj
    obtain ⟨A2, n2, c2, h1, h2, h3, h4, h5, h6⟩ := h.els j ms z hj
    refine ⟨A2, n2, c2, by rw [List.getElem?_append_left (by omega)]; exact h1, by rw [List.getElem?_append_left (by omega)]; exact h2, h3.grown hg (fun b o hA => (h6 b o hA).2), h4, h5, fun b o hA => ⟨Nat.lt_of_lt_of_le (h6 b o hA).1 hg.size, fun e => ?_⟩⟩
    have e' : some g = some b := e
    injection e' with e'
    subst e'
    obtain ⟨k1, k2⟩ := h6 _ _ hA
    rcases hat with hat | hat
    · exact k2 hat
    · omega
  · obtain rfl : j = L.length := by
      have := (List.getElem?_eq_some_iff.1 hj).1
      simp at this
      omega
    rw [List.getElem?_append_right (Nat.le_refl _), Nat.sub_self] at hj
    simp at hj
    obtain ⟨rfl, rfl⟩ := hj
    refine ⟨A', n', c', by rw [List.getElem?_append_right (by omega), hlv, Nat.sub_self]; rfl, by rw [List.getElem?_append_right (by omega), hlv, show L.length * 2 + 1 - L.length * 2 = 1 from by omega]; rfl, hI.grown hg (fun b o hA => (hf b o hA).2), hn, hm, fun b o hA => ⟨Nat.lt_of_lt_of_le (hf b o hA).1 hg.size, fun e => ?_⟩⟩
    have e' : some g = some b := e
    injection e' with e'
    subst e'
    obtain ⟨k1, k2⟩ := hf _ _ hA
    rcases hat with hat | hat
    · exact k2 hat
    · omega
theorem OwnA.form {base : Nat} {w : World} {v : Value} {L : List An} (h : OwnA base w v L) : ∃ A n c, v = .slice A n c ∧ n = L.length ∧ Ans w A L := by
  obtain ⟨vs, h⟩ := h
  have hlv := h.len
  rcases h.own.2 with ⟨rfl, h0⟩ | ⟨g, cap, cur, rfl, hb, hg, hn, hm, hs, ht⟩
  · exact ⟨none, 0, 0, rfl, by omega, .inl (List.eq_nil_of_length_eq_zero h0)⟩
  · have hlt := (World.ownsRow.lt h.own g rfl).2
    have hc := World.ownsRow.cells (g := g) h.own rfl
    refine ⟨_, _, _, rfl, rfl, .inr ⟨g, 0, rfl, hlt, fun j ns y hj => ?_⟩⟩
    obtain ⟨A', n', c', h1, h2, h3, h4, h5, h6⟩ := h.els j ns y hj
    have k1 := hc _ _ h1
    have k2 := hc _ _ h2
    rw [Go.Addr.add_mid] at k1 k2
    exact ⟨A', n', c', k1, k2, h3, h4, h5⟩
theorem info2A : (Try.prog.info? 30).map (fun i => (i.zero, i.size, i.bytes)) = some (some (.agg #[.slice none 0 0, .bool false]), 2, 32) := by kernel_rfl
theorem new2 (w : World) (a b : Value) (ty : TypeId) (g : Nat) (hg : g = w.heap.size) : ∀ j u, [a, b][j]? = some u → (w.alloc (.cells #[a, b] ty)).cell? ((⟨g, 0, none⟩ : Addr).add j) = some u := by
  subst hg
  intro j u hj
  rw [Go.Addr.add_mid]
  match j, hj with
  | 0, hj => simpa using hj
  | 1, hj => simpa using hj
theorem one2 (A : Option Addr) (n c : Nat) (y : Bool) : ∀ u ∈ [Value.slice A n c, .bool y], u.oneCell' = true := by
  intro u hu
  simp at hu
  rcases hu with rfl | rfl <;> rfl
end Go.Proofs.Ytmklpldmgmjlkaa

