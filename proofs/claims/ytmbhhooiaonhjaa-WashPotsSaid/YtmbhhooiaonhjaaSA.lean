/- Slices of slices of fractions. -/
import Derived.Test.YtmbhhooiaonhjaaZ2
import Derived.Lib.LazyBuf
namespace Go.Proofs.Ytmbhhooiaonhjaa
open Go.RowKit
theorem ownsRow_bel {w w' : World} {base e size n : Nat} {v : Value} {xs : List Value} (h : w.ownsRow base e size v n xs) (hb : Bel w w') : w'.ownsRow base e size v n xs :=
  World.ownsRow.kept (row := none) h ⟨hb.os, hb.tape, hb.output, hb.size, fun k hk _ => hb.block k hk⟩ (by
    cases hv : v.ownBlock with
    | none => exact .inl rfl
    | some k => exact .inr (by simp))
theorem grown_own {w W W' w3 : World} {base e size n : Nat} {v : Value} {xs : List Value} (hb : Bel w W) (ho : W'.ownsRow base e size v n xs) (h0 : w.heap.size ≤ base) (hg : W.grownBy w3 v.ownBlock) : Bel w w3 :=
  Below.grown hb hg hb.size (fun i hi => Nat.le_trans h0 (World.ownsRow.lt ho i hi).1)
/-- The slice at A reads as the lists T; all of it lies in blocks from 'lo' on. -/
def Tab (lo : Nat) (w : World) (A : Option Addr) (T : List (List (Int × Int))) : Prop :=
  T = [] ∨ ∃ b o, A = some ⟨b, o, none⟩ ∧ lo ≤ b ∧ b < w.heap.size ∧ ∀ (j : Nat) (ns : List (Int × Int)), T[j]? = some ns → ∃ A' n' c', w.cell? ⟨b, o + j, none⟩ = some (.slice A' n' c') ∧ Prs w A' ns ∧ ns.length = n' ∧ n' ≤ maxLen ∧ ∀ b' o', A' = some ⟨b', o', none⟩ → lo ≤ b'
theorem Tab.bel {lo : Nat} {w w' : World} {A : Option Addr} {T : List (List (Int × Int))} (h : Tab lo w A T) (hb : Bel w w') : Tab lo w' A T := by
  rcases h with h | ⟨b, o, rfl, hlo, hl, hc⟩
  · exact .inl h
  · refine .inr ⟨b, o, rfl, hlo, Nat.lt_of_lt_of_le hl hb.use.2.2, fun j ns hj => ?_⟩
    obtain ⟨A', n', c', h1, h3, h4, h5, h6⟩ := hc j ns hj
    exact ⟨A', n', c', by rw [hb.use.1 _ _ hl]; exact h1, h3.bel hb, h4, h5, h6⟩
theorem Tab.low {lo lo' : Nat} {w : World} {A : Option Addr} {T : List (List (Int × Int))} (h : Tab lo w A T) (hl : lo' ≤ lo) : Tab lo' w A T := by
  rcases h with h | ⟨b, o, rfl, hlo, hb, hc⟩
  · exact .inl h
  · refine .inr ⟨b, o, rfl, Nat.le_trans hl hlo, hb, fun j ns hj => ?_⟩
    obtain ⟨A', n', c', h1, h3, h4, h5, h6⟩ := hc j ns hj
    exact ⟨A', n', c', h1, h3, h4, h5, fun b' o' e => Nat.le_trans hl (h6 b' o' e)⟩
theorem Prs.far {w : World} {A : Option Addr} {ns : List (Int × Int)} (h : Prs w A ns) {p : Addr} (hne : ∀ b o, A = some ⟨b, o, none⟩ → b ≠ p.block) (u : Value) : Prs (w.setCell p u) A ns := by
  rcases h with h | ⟨b, o, rfl, hl, hc⟩
  · exact .inl h
  · refine .inr ⟨b, o, rfl, by simpa [World.setCell] using hl, fun j s m hj => ?_⟩
    have hne' := hne b o rfl
    rw [World.cell?_setCell_other _ _ _ _ (fun e => hne' (by have := congrArg Addr.block e; first | exact this | exact this.symm)), World.cell?_setCell_other _ _ _ _ (fun e => hne' (by have := congrArg Addr.block e; first | exact this | exact this.symm))]
    exact hc j s m hj
theorem Tab.far {lo : Nat} {w : World} {A : Option Addr} {T : List (List (Int × Int))} (h : Tab lo w A T) {p : Addr} (hp : p.block < lo) (u : Value) : Tab lo (w.setCell p u) A T := by
  rcases h with h | ⟨b, o, rfl, hlo, hl, hc⟩
  · exact .inl h
  · refine .inr ⟨b, o, rfl, hlo, by simpa [World.setCell] using hl, fun j ns hj => ?_⟩
    obtain ⟨A', n', c', h1, h3, h4, h5, h6⟩ := hc j ns hj
    refine ⟨A', n', c', ?_, h3.far (fun b' o' e => by have := h6 b' o' e; omega) u, h4, h5, h6⟩
    rw [World.cell?_setCell_other _ _ _ _ (fun e => by have := congrArg Addr.block e; simp at this; omega)]
    exact h1
theorem Tab.at_ {lo : Nat} {w : World} {A : Option Addr} {T : List (List (Int × Int))} (h : Tab lo w A T) {k : Nat} (hk : k < T.length) :
    ∃ b o ns A' n' c', A = some ⟨b, o, none⟩ ∧ b < w.heap.size ∧ T[k]? = some ns ∧ w.cell? ⟨b, o + k, none⟩ = some (.slice A' n' c') ∧ Prs w A' ns ∧ ns.length = n' ∧ n' ≤ maxLen := by
  rcases h with rfl | ⟨b, o, rfl, hlo, hl, hc⟩
  · simp at hk
  · have hg' : T[k]? = some T[k] := by rw [List.getElem?_eq_getElem hk]
    obtain ⟨A', n', c', h1, h3, h4, h5, -⟩ := hc k _ hg'
    exact ⟨b, o, _, A', n', c', rfl, hl, hg', h1, h3, h4, h5⟩
/-- The slice v is the call's own, from block 'base' on, and holds the lists T, whose numbers lie elsewhere from there on: its cells are vs. -/
structure OwnTV (base : Nat) (w : World) (v : Value) (T : List (List (Int × Int))) (vs : List Value) : Prop where
  own : w.ownsRow base 47 1 v T.length vs
  len : vs.length = T.length
  els : ∀ (j : Nat) (ns : List (Int × Int)), T[j]? = some ns → ∃ A' n' c', vs[j]? = some (.slice A' n' c') ∧ Prs w A' ns ∧ ns.length = n' ∧ n' ≤ maxLen ∧ ∀ b o, A' = some ⟨b, o, none⟩ → b < w.heap.size ∧ v.ownBlock ≠ some b ∧ base ≤ b
def OwnT (base : Nat) (w : World) (v : Value) (T : List (List (Int × Int))) : Prop := ∃ vs, OwnTV base w v T vs
theorem OwnT.nil (base : Nat) (w : World) : OwnT base w (.slice none 0 0) [] := ⟨[], World.ownsRow_nil _ _ _ _, rfl, fun j ns hj => by simp at hj⟩
theorem OwnTV.bel {base : Nat} {w w' : World} {v : Value} {T : List (List (Int × Int))} {vs : List Value} (h : OwnTV base w v T vs) (hb : Bel w w') : OwnTV base w' v T vs := by
  refine ⟨ownsRow_bel h.own hb, h.len, fun j ns hj => ?_⟩
  obtain ⟨A', n', c', h1, h3, h4, h5, h6⟩ := h.els j ns hj
  exact ⟨A', n', c', h1, h3.bel hb, h4, h5, fun b o hA => ⟨Nat.lt_of_lt_of_le (h6 b o hA).1 hb.size, (h6 b o hA).2⟩⟩
theorem OwnT.bel {base : Nat} {w w' : World} {v : Value} {T : List (List (Int × Int))} (h : OwnT base w v T) (hb : Bel w w') : OwnT base w' v T := by
  obtain ⟨vs, h⟩ := h
  exact ⟨vs, h.bel hb⟩
theorem Prs.grown {w w' : World} {A : Option Addr} {ns : List (Int × Int)} {row : Option Nat} (h : Prs w A ns) (hg : w.grownBy w' row) (hne : ∀ b o, A = some ⟨b, o, none⟩ → row ≠ some b) : Prs w' A ns := by
  rcases h with h | ⟨b, o, rfl, hl, hc⟩
  · exact .inl h
  · refine .inr ⟨b, o, rfl, Nat.lt_of_lt_of_le hl hg.size, fun j s m hj => ?_⟩
    have hk := hc j s m hj
    exact ⟨by rw [World.cell?_of_block (w := w) (hg.block b hl (fun e => hne b o rfl e.symm))]; exact hk.1, by rw [World.cell?_of_block (w := w) (hg.block b hl (fun e => hne b o rfl e.symm))]; exact hk.2⟩
theorem OwnTV.snoc {base g cap : Nat} {w w3 : World} {v : Value} {T : List (List (Int × Int))} {vs : List Value} {ns : List (Int × Int)} {A' : Option Addr} {n' c' : Nat} (h : OwnTV base w v T vs) (hI : Prs w A' ns) (hn : ns.length = n') (hm : n' ≤ maxLen)
    (hf : ∀ b o, A' = some ⟨b, o, none⟩ → b < w.heap.size ∧ v.ownBlock ≠ some b ∧ base ≤ b)
    (hown : w3.ownsRow base 47 1 (.slice (some ⟨g, 0, none⟩) (T.length + 1) cap) (T.length + 1) (vs ++ [.slice A' n' c'])) (hg : w.grownBy w3 v.ownBlock) (hat : v.ownBlock = some g ∨ g = w.heap.size) :
    OwnT base w3 (.slice (some ⟨g, 0, none⟩) (T.length + 1) cap) (T ++ [ns]) := by
  refine ⟨vs ++ [.slice A' n' c'], by simpa using hown, by simp [h.len], fun j ms hj => ?_⟩
  have hlv := h.len
  by_cases hjl : j < T.length
  · rw [List.getElem?_append_left hjl] at hj
    obtain ⟨A2, n2, c2, h1, h3, h4, h5, h6⟩ := h.els j ms hj
    refine ⟨A2, n2, c2, by rw [List.getElem?_append_left (by omega)]; exact h1, h3.grown hg (fun b o hA => (h6 b o hA).2.1), h4, h5, fun b o hA => ⟨Nat.lt_of_lt_of_le (h6 b o hA).1 hg.size, fun e => ?_, (h6 b o hA).2.2⟩⟩
    have e' : some g = some b := e
    injection e' with e'
    subst e'
    obtain ⟨k1, k2, -⟩ := h6 _ _ hA
    rcases hat with hat | hat
    · exact k2 hat
    · omega
  · obtain rfl : j = T.length := by
      have := (List.getElem?_eq_some_iff.1 hj).1
      simp at this
      omega
    rw [List.getElem?_append_right (Nat.le_refl _), Nat.sub_self] at hj
    simp at hj
    subst hj
    refine ⟨A', n', c', by rw [List.getElem?_append_right (by omega), hlv, Nat.sub_self]; rfl, hI.grown hg (fun b o hA => (hf b o hA).2.1), hn, hm, fun b o hA => ⟨Nat.lt_of_lt_of_le (hf b o hA).1 hg.size, fun e => ?_, (hf b o hA).2.2⟩⟩
    have e' : some g = some b := e
    injection e' with e'
    subst e'
    obtain ⟨k1, k2, -⟩ := hf _ _ hA
    rcases hat with hat | hat
    · exact k2 hat
    · omega
theorem OwnT.form {base : Nat} {w : World} {v : Value} {T : List (List (Int × Int))} (h : OwnT base w v T) : ∃ A n c, v = .slice A n c ∧ n = T.length ∧ Tab base w A T := by
  obtain ⟨vs, h⟩ := h
  have hlv := h.len
  rcases h.own.2 with ⟨rfl, h0⟩ | ⟨g, cap, cur, rfl, hb, hg, hn, hm, hs, ht⟩
  · exact ⟨none, 0, 0, rfl, by omega, .inl (List.eq_nil_of_length_eq_zero h0)⟩
  · have hlt := (World.ownsRow.lt h.own g rfl).2
    have hc := World.ownsRow.cells (g := g) h.own rfl
    refine ⟨_, _, _, rfl, rfl, .inr ⟨g, 0, rfl, (World.ownsRow.lt h.own g rfl).1, hlt, fun j ns hj => ?_⟩⟩
    obtain ⟨A', n', c', h1, h3, h4, h5, h6⟩ := h.els j ns hj
    have k1 := hc _ _ h1
    rw [Go.Addr.add_mid] at k1
    exact ⟨A', n', c', k1, h3, h4, h5, fun b' o' e => (h6 b' o' e).2.2⟩
theorem info1R : (Try.prog.info? 47).map (fun i => (i.zero, i.size, i.bytes)) = some (some (.slice none 0 0), 1, 24) := by kernel_rfl
theorem newS (w : World) (a : Value) (ty : TypeId) (g : Nat) (hg : g = w.heap.size) : ∀ j u, [a][j]? = some u → (w.alloc (.cells #[a] ty)).cell? ((⟨g, 0, none⟩ : Addr).add j) = some u := by
  subst hg
  intro j u hj
  rw [Go.Addr.add_mid]
  match j, hj with
  | 0, hj => simpa using hj
theorem oneS (A : Option Addr) (n c : Nat) : ∀ u ∈ [Value.slice A n c], u.oneCell' = true := by
  intro u hu
  simp at hu
  rw [hu]
  rfl

end Go.Proofs.Ytmbhhooiaonhjaa
