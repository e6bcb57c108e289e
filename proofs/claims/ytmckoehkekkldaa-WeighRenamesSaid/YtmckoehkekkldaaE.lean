/- Plans: lists of weighings, that a call makes, that came in with their spare cells. -/
import Derived.Test.YtmckoehkekkldaaD
namespace Go.Proofs.Ytmckoehkekkldaa
open Go.RowKit

/-- A weighing: its left side and its right side. -/
abbrev Wg := List Int × List Int
/-- The slice at A reads as the plan P; all of it lies in blocks from 'lo' on. -/
def Plan (lo : Nat) (w : World) (A : Option Addr) (P : List Wg) : Prop :=
  P = [] ∨ ∃ b o, A = some ⟨b, o, none⟩ ∧ lo ≤ b ∧ b < w.heap.size ∧ ∀ (j : Nat) (l r : List Int), P[j]? = some (l, r) →
    ∃ A1 n1 c1 A2 n2 c2, w.cell? ⟨b, o + j * 2, none⟩ = some (.slice A1 n1 c1) ∧ w.cell? ⟨b, o + j * 2 + 1, none⟩ = some (.slice A2 n2 c2) ∧ Ints w A1 l ∧ l.length = n1 ∧ n1 ≤ maxLen ∧ (∀ b' o', A1 = some ⟨b', o', none⟩ → lo ≤ b') ∧ Ints w A2 r ∧ r.length = n2 ∧ n2 ≤ maxLen ∧ ∀ b' o', A2 = some ⟨b', o', none⟩ → lo ≤ b'
theorem Plan.bel {lo : Nat} {w w' : World} {A : Option Addr} {P : List Wg} (h : Plan lo w A P) (hb : Bel w w') : Plan lo w' A P := by
  rcases h with h | ⟨b, o, rfl, hlo, hl, hc⟩
  · exact .inl h
  · refine .inr ⟨b, o, rfl, hlo, Nat.lt_of_lt_of_le hl hb.use.2.2, fun j l r hj => ?_⟩
    obtain ⟨A1, n1, c1, A2, n2, c2, h1, h2, h3, h4, h5, h6, h7, h8⟩ := hc j l r hj
    exact ⟨A1, n1, c1, A2, n2, c2, by rw [hb.use.1 _ _ hl]; exact h1, by rw [hb.use.1 _ _ hl]; exact h2, h3.bel hb, h4, h5, h6, h7.bel hb, h8⟩
theorem Plan.low {lo lo' : Nat} {w : World} {A : Option Addr} {P : List Wg} (h : Plan lo w A P) (hl : lo' ≤ lo) : Plan lo' w A P := by
  rcases h with h | ⟨b, o, rfl, hlo, hb, hc⟩
  · exact .inl h
  · refine .inr ⟨b, o, rfl, Nat.le_trans hl hlo, hb, fun j l r hj => ?_⟩
    obtain ⟨A1, n1, c1, A2, n2, c2, h1, h2, h3, h4, h5, h6, h7, h8, h9, h10⟩ := hc j l r hj
    exact ⟨A1, n1, c1, A2, n2, c2, h1, h2, h3, h4, h5, fun b' o' e => Nat.le_trans hl (h6 b' o' e), h7, h8, h9, fun b' o' e => Nat.le_trans hl (h10 b' o' e)⟩
theorem Plan.at_ {lo : Nat} {w : World} {A : Option Addr} {P : List Wg} (h : Plan lo w A P) {k : Nat} (hk : k < P.length) :
    ∃ b o l r A1 n1 c1 A2 n2 c2, A = some ⟨b, o, none⟩ ∧ b < w.heap.size ∧ P[k]? = some (l, r) ∧ w.cell? ⟨b, o + k * 2, none⟩ = some (.slice A1 n1 c1) ∧ w.cell? ⟨b, o + k * 2 + 1, none⟩ = some (.slice A2 n2 c2) ∧ Ints w A1 l ∧ l.length = n1 ∧ n1 ≤ maxLen ∧ Ints w A2 r ∧ r.length = n2 ∧ n2 ≤ maxLen := by
  rcases h with rfl | ⟨b, o, rfl, hlo, hl, hc⟩
  · simp at hk
  · have hg' : P[k]? = some (P[k].1, P[k].2) := by rw [List.getElem?_eq_getElem hk]
    obtain ⟨A1, n1, c1, A2, n2, c2, h1, h2, h3, h4, h5, h6, h7, h8, h9, h10⟩ := hc k _ _ hg'
    exact ⟨b, o, _, _, A1, n1, c1, A2, n2, c2, rfl, hl, hg', h1, h2, h3, h4, h5, h7, h8, h9⟩
/-- The slice v is the call's own, from block 'base' on, and holds the plan P, whose sides lie elsewhere from there on: its cells are vs. -/
structure OwnPV (base : Nat) (w : World) (v : Value) (P : List Wg) (vs : List Value) : Prop where
  own : w.ownsRow base 50 2 v P.length vs
  len : vs.length = P.length * 2
  els : ∀ (j : Nat) (l r : List Int), P[j]? = some (l, r) → ∃ A1 n1 c1 A2 n2 c2, vs[j * 2]? = some (.slice A1 n1 c1) ∧ vs[j * 2 + 1]? = some (.slice A2 n2 c2) ∧ Ints w A1 l ∧ l.length = n1 ∧ n1 ≤ maxLen ∧ (∀ b o, A1 = some ⟨b, o, none⟩ → b < w.heap.size ∧ v.ownBlock ≠ some b ∧ base ≤ b) ∧ Ints w A2 r ∧ r.length = n2 ∧ n2 ≤ maxLen ∧ (∀ b o, A2 = some ⟨b, o, none⟩ → b < w.heap.size ∧ v.ownBlock ≠ some b ∧ base ≤ b)
def OwnP (base : Nat) (w : World) (v : Value) (P : List Wg) : Prop := ∃ vs, OwnPV base w v P vs
theorem OwnP.nil (base : Nat) (w : World) : OwnP base w (.slice none 0 0) [] := ⟨[], World.ownsRow_nil _ _ _ _, rfl, fun j l r hj => by simp at hj⟩
theorem OwnPV.bel {base : Nat} {w w' : World} {v : Value} {P : List Wg} {vs : List Value} (h : OwnPV base w v P vs) (hb : Bel w w') : OwnPV base w' v P vs := by
  refine ⟨ownsRow_bel h.own hb, h.len, fun j l r hj => ?_⟩
  obtain ⟨A1, n1, c1, A2, n2, c2, h1, h2, h3, h4, h5, h6, h7, h8, h9, h10⟩ := h.els j l r hj
  exact ⟨A1, n1, c1, A2, n2, c2, h1, h2, h3.bel hb, h4, h5, fun b o hA => ⟨Nat.lt_of_lt_of_le (h6 b o hA).1 hb.size, (h6 b o hA).2⟩, h7.bel hb, h8, h9, fun b o hA => ⟨Nat.lt_of_lt_of_le (h10 b o hA).1 hb.size, (h10 b o hA).2⟩⟩
theorem OwnP.bel {base : Nat} {w w' : World} {v : Value} {P : List Wg} (h : OwnP base w v P) (hb : Bel w w') : OwnP base w' v P := by
  obtain ⟨vs, h⟩ := h
  exact ⟨vs, h.bel hb⟩
theorem OwnPV.snoc {base g cap : Nat} {w w3 : World} {v : Value} {P : List Wg} {vs : List Value} {l r : List Int} {A1 : Option Addr} {n1 c1 : Nat} {A2 : Option Addr} {n2 c2 : Nat} (h : OwnPV base w v P vs) (hI : Ints w A1 l) (hn : l.length = n1) (hm : n1 ≤ maxLen)
    (hf : ∀ b o, A1 = some ⟨b, o, none⟩ → b < w.heap.size ∧ v.ownBlock ≠ some b ∧ base ≤ b)
    (hI2 : Ints w A2 r) (hn2 : r.length = n2) (hm2 : n2 ≤ maxLen)
    (hf2 : ∀ b o, A2 = some ⟨b, o, none⟩ → b < w.heap.size ∧ v.ownBlock ≠ some b ∧ base ≤ b)
    (hown : w3.ownsRow base 50 2 (.slice (some ⟨g, 0, none⟩) (P.length + 1) cap) (P.length + 1) (vs ++ [.slice A1 n1 c1, .slice A2 n2 c2])) (hg : w.grownBy w3 v.ownBlock) (hat : v.ownBlock = some g ∨ g = w.heap.size) :
    OwnP base w3 (.slice (some ⟨g, 0, none⟩) (P.length + 1) cap) (P ++ [(l, r)]) := by
  have far : ∀ {A : Option Addr}, (∀ b o, A = some ⟨b, o, none⟩ → b < w.heap.size ∧ v.ownBlock ≠ some b ∧ base ≤ b) → ∀ b o, A = some ⟨b, o, none⟩ → b < w3.heap.size ∧ (Value.slice (some ⟨g, 0, none⟩) (P.length + 1) cap).ownBlock ≠ some b ∧ base ≤ b := by
    intro A h6 b o hA
    refine ⟨Nat.lt_of_lt_of_le (h6 b o hA).1 hg.size, fun e => ?_, (h6 b o hA).2.2⟩
    have e' : some g = some b := e
    injection e' with e'
    subst e'
    obtain ⟨k1, k2, -⟩ := h6 _ _ hA
    rcases hat with hat | hat
    · exact k2 hat
    · omega
  refine ⟨vs ++ [.slice A1 n1 c1, .slice A2 n2 c2], by simpa using hown, by simp [h.len]; omega, fun j ms ks hj => ?_⟩
  have hlv := h.len
  by_cases hjl : j < P.length
  · rw [List.getElem?_append_left hjl] at hj
    obtain ⟨A3, n3, c3, A4, n4, c4, h1, h2, h3, h4, h5, h6, h7, h8, h9, h10⟩ := h.els j ms ks hj
    exact ⟨A3, n3, c3, A4, n4, c4, by rw [List.getElem?_append_left (by omega)]; exact h1, by rw [List.getElem?_append_left (by omega)]; exact h2, h3.grown hg (fun b o hA => (h6 b o hA).2.1), h4, h5, far h6, h7.grown hg (fun b o hA => (h10 b o hA).2.1), h8, h9, far h10⟩
  · obtain rfl : j = P.length := by
      have := (List.getElem?_eq_some_iff.1 hj).1
      simp at this
      omega
    rw [List.getElem?_append_right (Nat.le_refl _), Nat.sub_self] at hj
    simp at hj
    obtain ⟨rfl, rfl⟩ := hj
    exact ⟨A1, n1, c1, A2, n2, c2, by rw [List.getElem?_append_right (by omega), hlv, Nat.sub_self]; rfl, by rw [List.getElem?_append_right (by omega), hlv, show P.length * 2 + 1 - P.length * 2 = 1 from by omega]; rfl, hI.grown hg (fun b o hA => (hf b o hA).2.1), hn, hm, far hf, hI2.grown hg (fun b o hA => (hf2 b o hA).2.1), hn2, hm2, far hf2⟩
theorem OwnP.form {base : Nat} {w : World} {v : Value} {P : List Wg} (h : OwnP base w v P) : ∃ A n c, v = .slice A n c ∧ n = P.length ∧ Plan base w A P := by
  obtain ⟨vs, h⟩ := h
  have hlv := h.len
  rcases h.own.2 with ⟨rfl, h0⟩ | ⟨g, cap, cur, rfl, hb, hg, hn, hm, hs, ht⟩
  · exact ⟨none, 0, 0, rfl, by omega, .inl (List.eq_nil_of_length_eq_zero h0)⟩
  · have hlt := (World.ownsRow.lt h.own g rfl).2
    have hc := World.ownsRow.cells (g := g) h.own rfl
    refine ⟨_, _, _, rfl, rfl, .inr ⟨g, 0, rfl, (World.ownsRow.lt h.own g rfl).1, hlt, fun j l r hj => ?_⟩⟩
    obtain ⟨A1, n1, c1, A2, n2, c2, h1, h2, h3, h4, h5, h6, h7, h8, h9, h10⟩ := h.els j l r hj
    have k1 := hc _ _ h1
    have k2 := hc _ _ h2
    rw [Go.Addr.add_mid] at k1 k2
    exact ⟨A1, n1, c1, A2, n2, c2, k1, k2, h3, h4, h5, fun b' o' e => (h6 b' o' e).2.2, h7, h8, h9, fun b' o' e => (h10 b' o' e).2.2⟩
theorem info2W : (Try.prog.info? 50).map (fun i => (i.zero, i.size, i.bytes)) = some (some (.agg #[.slice none 0 0, .slice none 0 0]), 2, 48) := by kernel_rfl
theorem new2 (w : World) (a b : Value) (ty : TypeId) (g : Nat) (hg : g = w.heap.size) : ∀ j u, [a, b][j]? = some u → (w.alloc (.cells #[a, b] ty)).cell? ((⟨g, 0, none⟩ : Addr).add j) = some u := by
  subst hg
  intro j u hj
  rw [Go.Addr.add_mid]
  match j, hj with
  | 0, hj => simpa using hj
  | 1, hj => simpa using hj
theorem one2 (A : Option Addr) (n c : Nat) (A' : Option Addr) (n' c' : Nat) : ∀ u ∈ [Value.slice A n c, .slice A' n' c'], u.oneCell' = true := by
  intro u hu
  simp at hu
  rcases hu with rfl | rfl <;> rfl
/-- A weighing with the spare cells of its sides. -/
abbrev WgZ := RowZ × RowZ
def visW (z : WgZ) : Wg := (visZ z.1, visZ z.2)
def fullW (z : WgZ) : Wg := (z.1.1, z.2.1)
/-- The slice at A reads as the weighings Z, with their spare cells. -/
def PlanZ (w : World) (A : Option Addr) (Z : List WgZ) : Prop :=
  Z = [] ∨ ∃ b o, A = some ⟨b, o, none⟩ ∧ b < w.heap.size ∧ ∀ (j : Nat) (l r : RowZ), Z[j]? = some (l, r) →
    ∃ A1 c1 A2 c2, w.cell? ⟨b, o + j * 2, none⟩ = some (.slice A1 l.2 c1) ∧ w.cell? ⟨b, o + j * 2 + 1, none⟩ = some (.slice A2 r.2 c2) ∧ (Ints w A1 l.1 ∧ l.1.length = c1 ∧ l.2 ≤ c1 ∧ (A1 = none → c1 = 0) ∧ c1 * 8 ≤ reachN) ∧ (Ints w A2 r.1 ∧ r.1.length = c2 ∧ r.2 ≤ c2 ∧ (A2 = none → c2 = 0) ∧ c2 * 8 ≤ reachN)
theorem PlanZ.bel {w w' : World} {A : Option Addr} {Z : List WgZ} (h : PlanZ w A Z) (hb : Bel w w') : PlanZ w' A Z := by
  rcases h with h | ⟨b, o, rfl, hl, hc⟩
  · exact .inl h
  · refine .inr ⟨b, o, rfl, Nat.lt_of_lt_of_le hl hb.use.2.2, fun j l r hj => ?_⟩
    obtain ⟨A1, c1, A2, c2, h1, h2, ⟨h3, h4⟩, ⟨h5, h6⟩⟩ := hc j l r hj
    exact ⟨A1, c1, A2, c2, by rw [hb.use.1 _ _ hl]; exact h1, by rw [hb.use.1 _ _ hl]; exact h2, ⟨h3.bel hb, h4⟩, ⟨h5.bel hb, h6⟩⟩
theorem PlanZ.at_ {w : World} {A : Option Addr} {Z : List WgZ} (h : PlanZ w A Z) {k : Nat} (hk : k < Z.length) :
    ∃ b o xs m ys q A1 c1 A2 c2, A = some ⟨b, o, none⟩ ∧ b < w.heap.size ∧ Z[k]? = some ((xs, m), (ys, q)) ∧ w.cell? ⟨b, o + k * 2, none⟩ = some (.slice A1 m c1) ∧ w.cell? ⟨b, o + k * 2 + 1, none⟩ = some (.slice A2 q c2) ∧ (Ints w A1 xs ∧ xs.length = c1 ∧ m ≤ c1 ∧ (A1 = none → c1 = 0) ∧ c1 * 8 ≤ reachN) ∧ (Ints w A2 ys ∧ ys.length = c2 ∧ q ≤ c2 ∧ (A2 = none → c2 = 0) ∧ c2 * 8 ≤ reachN) := by
  rcases h with rfl | ⟨b, o, rfl, hl, hc⟩
  · simp at hk
  · have hg' : Z[k]? = some ((Z[k].1.1, Z[k].1.2), (Z[k].2.1, Z[k].2.2)) := by rw [List.getElem?_eq_getElem hk]
    obtain ⟨A1, c1, A2, c2, h1, h2, h3, h4⟩ := hc k _ _ hg'
    exact ⟨b, o, _, _, _, _, A1, c1, A2, c2, rfl, hl, hg', h1, h2, h3, h4⟩
/-- Its elements, as they are read. -/
theorem PlanZ.plan {w : World} {A : Option Addr} {Z : List WgZ} (h : PlanZ w A Z) (n : Nat) : Plan 0 w A ((Z.take n).map visW) := by
  rcases h with rfl | ⟨b, o, rfl, hl, hc⟩
  · exact .inl (by simp)
  · refine .inr ⟨b, o, rfl, Nat.zero_le _, hl, fun j l r hj => ?_⟩
    simp only [List.getElem?_map, Option.map_eq_some_iff] at hj
    obtain ⟨⟨⟨xs, m⟩, ⟨ys, q⟩⟩, hz, he⟩ := hj
    simp only [visW, Prod.mk.injEq] at he
    obtain ⟨rfl, rfl⟩ := he
    have hz' : Z[j]? = some ((xs, m), (ys, q)) := by
      rw [List.getElem?_take] at hz
      split at hz
      · exact hz
      · cases hz
    obtain ⟨A1, c1, A2, c2, h1, h2, ⟨h3, h4, h5, _, h7⟩, ⟨k3, k4, k5, _, k7⟩⟩ := hc j _ _ hz'
    simp only at h1 h2 h4 h5 h7 k4 k5 k7
    exact ⟨A1, m, c1, A2, q, c2, h1, h2, h3.take m, by simp only [visZ, List.length_take]; omega, Nat.le_trans h5 (reachN_le h7 (by omega)).2, fun _ _ _ => Nat.zero_le _, k3.take q, by simp only [visZ, List.length_take]; omega, Nat.le_trans k5 (reachN_le k7 (by omega)).2, fun _ _ _ => Nat.zero_le _⟩
/-- A plan that came in: the first n of c cells are its weighings. -/
structure ArgP (w : World) (A : Option Addr) (n c : Nat) (Z : List WgZ) : Prop where
  plan : PlanZ w A Z
  len : Z.length = c
  le : n ≤ c
  nil : A = none → c = 0
  reach : c * 48 ≤ reachN
theorem ArgP.bel {w w' : World} {A : Option Addr} {n c : Nat} {Z : List WgZ} (h : ArgP w A n c Z) (hb : Bel w w') : ArgP w' A n c Z := ⟨h.plan.bel hb, h.len, h.le, h.nil, h.reach⟩
theorem ArgP.els {w : World} {A : Option Addr} {n c : Nat} {Z : List WgZ} (h : ArgP w A n c Z) : Plan 0 w A ((Z.take n).map visW) ∧ ((Z.take n).map visW).length = n ∧ n ≤ maxLen := by
  have h1 := h.len
  have h2 := h.le
  have h3 := h.reach
  exact ⟨h.plan.plan n, by rw [List.length_map, List.length_take]; omega, Nat.le_trans h2 (reachN_le h3 (by omega)).2⟩
def KeptP (w : World) (Z : List WgZ) (e : Ending) (w' : World) : Prop := ∃ A n c, e = .returned (.slice A n c) ∧ n = Z.length ∧ Bel w w' ∧ Plan w.heap.size w' A (Z.map fullW)
end Go.Proofs.Ytmckoehkekkldaa
