/- Slices of slices of integers; clones; tables that came in, with their spare cells; kept. -/
import Derived.Test.YtahkihifgafbnaaB
import Derived.Lib.LazyBuf
namespace Go.Proofs.Ytahkihifgafbnaa
open Go.RowKit
/-- The slice at A reads as the lists T; all of it lies in blocks from 'lo' on. -/
def Tab (lo : Nat) (w : World) (A : Option Addr) (T : List (List Int)) : Prop :=
  T = [] ∨ ∃ b o, A = some ⟨b, o, none⟩ ∧ lo ≤ b ∧ b < w.heap.size ∧ ∀ (j : Nat) (ns : List Int), T[j]? = some ns → ∃ A' n' c', w.cell? ⟨b, o + j, none⟩ = some (.slice A' n' c') ∧ Ints w A' ns ∧ ns.length = n' ∧ n' ≤ maxLen ∧ ∀ b' o', A' = some ⟨b', o', none⟩ → lo ≤ b'
theorem Tab.bel {lo : Nat} {w w' : World} {A : Option Addr} {T : List (List Int)} (h : Tab lo w A T) (hb : Bel w w') : Tab lo w' A T := by
  rcases h with h | ⟨b, o, rfl, hlo, hl, hc⟩
  · exact .inl h
  · refine .inr ⟨b, o, rfl, hlo, Nat.lt_of_lt_of_le hl hb.use.2.2, fun j ns hj => ?_⟩
    obtain ⟨A', n', c', h1, h3, h4, h5, h6⟩ := hc j ns hj
    exact ⟨A', n', c', by rw [hb.use.1 _ _ hl]; exact h1, h3.bel hb, h4, h5, h6⟩
theorem Tab.low {lo lo' : Nat} {w : World} {A : Option Addr} {T : List (List Int)} (h : Tab lo w A T) (hl : lo' ≤ lo) : Tab lo' w A T := by
  rcases h with h | ⟨b, o, rfl, hlo, hb, hc⟩
  · exact .inl h
  · refine .inr ⟨b, o, rfl, Nat.le_trans hl hlo, hb, fun j ns hj => ?_⟩
    obtain ⟨A', n', c', h1, h3, h4, h5, h6⟩ := hc j ns hj
    exact ⟨A', n', c', h1, h3, h4, h5, fun b' o' e => Nat.le_trans hl (h6 b' o' e)⟩
theorem Ints.far {w : World} {A : Option Addr} {ns : List Int} (h : Ints w A ns) {p : Addr} (hne : ∀ b o, A = some ⟨b, o, none⟩ → b ≠ p.block) (u : Value) : Ints (w.setCell p u) A ns := by
  rcases h with h | ⟨b, o, rfl, hl, hc⟩
  · exact .inl h
  · refine .inr ⟨b, o, rfl, by simpa [World.setCell] using hl, fun j v hj => ?_⟩
    have hne' := hne b o rfl
    rw [World.cell?_setCell_other _ _ _ _ (fun e => hne' (by have := congrArg Addr.block e; first | exact this | exact this.symm))]
    exact hc j v hj
theorem Tab.far {lo : Nat} {w : World} {A : Option Addr} {T : List (List Int)} (h : Tab lo w A T) {p : Addr} (hp : p.block < lo) (u : Value) : Tab lo (w.setCell p u) A T := by
  rcases h with h | ⟨b, o, rfl, hlo, hl, hc⟩
  · exact .inl h
  · refine .inr ⟨b, o, rfl, hlo, by simpa [World.setCell] using hl, fun j ns hj => ?_⟩
    obtain ⟨A', n', c', h1, h3, h4, h5, h6⟩ := hc j ns hj
    refine ⟨A', n', c', ?_, h3.far (fun b' o' e => by have := h6 b' o' e; omega) u, h4, h5, h6⟩
    rw [World.cell?_setCell_other _ _ _ _ (fun e => by have := congrArg Addr.block e; simp at this; omega)]
    exact h1
theorem Tab.at_ {lo : Nat} {w : World} {A : Option Addr} {T : List (List Int)} (h : Tab lo w A T) {k : Nat} (hk : k < T.length) :
    ∃ b o ns A' n' c', A = some ⟨b, o, none⟩ ∧ b < w.heap.size ∧ T[k]? = some ns ∧ w.cell? ⟨b, o + k, none⟩ = some (.slice A' n' c') ∧ Ints w A' ns ∧ ns.length = n' ∧ n' ≤ maxLen := by
  rcases h with rfl | ⟨b, o, rfl, hlo, hl, hc⟩
  · simp at hk
  · have hg' : T[k]? = some T[k] := by rw [List.getElem?_eq_getElem hk]
    obtain ⟨A', n', c', h1, h3, h4, h5, -⟩ := hc k _ hg'
    exact ⟨b, o, _, A', n', c', rfl, hl, hg', h1, h3, h4, h5⟩
/-- The slice v is the call's own, from block 'base' on, and holds the lists T, whose numbers lie elsewhere from there on: its cells are vs. -/
structure OwnTV (base : Nat) (w : World) (v : Value) (T : List (List Int)) (vs : List Value) : Prop where
  own : w.ownsRow base 26 1 v T.length vs
  len : vs.length = T.length
  els : ∀ (j : Nat) (ns : List Int), T[j]? = some ns → ∃ A' n' c', vs[j]? = some (.slice A' n' c') ∧ Ints w A' ns ∧ ns.length = n' ∧ n' ≤ maxLen ∧ ∀ b o, A' = some ⟨b, o, none⟩ → b < w.heap.size ∧ v.ownBlock ≠ some b ∧ base ≤ b
def OwnT (base : Nat) (w : World) (v : Value) (T : List (List Int)) : Prop := ∃ vs, OwnTV base w v T vs
theorem OwnT.nil (base : Nat) (w : World) : OwnT base w (.slice none 0 0) [] := ⟨[], World.ownsRow_nil _ _ _ _, rfl, fun j ns hj => by simp at hj⟩
theorem OwnTV.bel {base : Nat} {w w' : World} {v : Value} {T : List (List Int)} {vs : List Value} (h : OwnTV base w v T vs) (hb : Bel w w') : OwnTV base w' v T vs := by
  refine ⟨ownsRow_bel h.own hb, h.len, fun j ns hj => ?_⟩
  obtain ⟨A', n', c', h1, h3, h4, h5, h6⟩ := h.els j ns hj
  exact ⟨A', n', c', h1, h3.bel hb, h4, h5, fun b o hA => ⟨Nat.lt_of_lt_of_le (h6 b o hA).1 hb.size, (h6 b o hA).2⟩⟩
theorem OwnT.bel {base : Nat} {w w' : World} {v : Value} {T : List (List Int)} (h : OwnT base w v T) (hb : Bel w w') : OwnT base w' v T := by
  obtain ⟨vs, h⟩ := h
  exact ⟨vs, h.bel hb⟩
theorem Ints.grown {w w' : World} {A : Option Addr} {ns : List Int} {row : Option Nat} (h : Ints w A ns) (hg : w.grownBy w' row) (hne : ∀ b o, A = some ⟨b, o, none⟩ → row ≠ some b) : Ints w' A ns := by
  rcases h with h | ⟨b, o, rfl, hl, hc⟩
  · exact .inl h
  · refine .inr ⟨b, o, rfl, Nat.lt_of_lt_of_le hl hg.size, fun j v hj => ?_⟩
    rw [World.cell?_of_block (w := w) (hg.block b hl (fun e => hne b o rfl e.symm))]
    exact hc j v hj
theorem OwnTV.snoc {base g cap : Nat} {w w3 : World} {v : Value} {T : List (List Int)} {vs : List Value} {ns : List Int} {A' : Option Addr} {n' c' : Nat} (h : OwnTV base w v T vs) (hI : Ints w A' ns) (hn : ns.length = n') (hm : n' ≤ maxLen)
    (hf : ∀ b o, A' = some ⟨b, o, none⟩ → b < w.heap.size ∧ v.ownBlock ≠ some b ∧ base ≤ b)
    (hown : w3.ownsRow base 26 1 (.slice (some ⟨g, 0, none⟩) (T.length + 1) cap) (T.length + 1) (vs ++ [.slice A' n' c'])) (hg : w.grownBy w3 v.ownBlock) (hat : v.ownBlock = some g ∨ g = w.heap.size) :
    OwnT base w3 (.slice (some ⟨g, 0, none⟩) (T.length + 1) cap) (T ++ [ns]) := by
  refine ⟨vs ++ [.slice A' n' c'], by simpa using hown, by simp [h.len], fun j ms hj => ?_⟩
  have hlv := h.len
  by_cases hjl : j < T.length
  · rw [List.getElem?_append_left hjl] at hj
    obtain ⟨A2, n2, c2, h1, h3, h4, h5, h6⟩ := h.els j ms hj
    refine ⟨A2, n2, c2, by rw [List.getElem?_append_left (by omega)]; exact h1, h3.grown hg (fun b o hA => (h6 b o hA).2.1), h4, h5, fun b o hA => ⟨Nat.lt_of_lt_of_le (h6 b o hA).1 hg.size, fun e => ?_, (h6 b o hA).2.2⟩⟩
    have e' : some g = some b := e
    injection e' with e'
    subst e'
    obtain ⟨k1, k2, -⟩ := h6 _ _ hA
    rcases hat with hat | hat
    · exact k2 hat
    · omega
  · obtain rfl : j = T.length := by
      have := (List.getElem?_eq_some_iff.1 hj).1
      simp at this
      omega
    rw [List.getElem?_append_right (Nat.le_refl _), Nat.sub_self] at hj
    simp at hj
    subst hj
    refine ⟨A', n', c', by rw [List.getElem?_append_right (by omega), hlv, Nat.sub_self]; rfl, hI.grown hg (fun b o hA => (hf b o hA).2.1), hn, hm, fun b o hA => ⟨Nat.lt_of_lt_of_le (hf b o hA).1 hg.size, fun e => ?_, (hf b o hA).2.2⟩⟩
    have e' : some g = some b := e
    injection e' with e'
    subst e'
    obtain ⟨k1, k2, -⟩ := hf _ _ hA
    rcases hat with hat | hat
    · exact k2 hat
    · omega
theorem OwnT.form {base : Nat} {w : World} {v : Value} {T : List (List Int)} (h : OwnT base w v T) : ∃ A n c, v = .slice A n c ∧ n = T.length ∧ Tab base w A T := by
  obtain ⟨vs, h⟩ := h
  have hlv := h.len
  rcases h.own.2 with ⟨rfl, h0⟩ | ⟨g, cap, cur, rfl, hb, hg, hn, hm, hs, ht⟩
  · exact ⟨none, 0, 0, rfl, by omega, .inl (List.eq_nil_of_length_eq_zero h0)⟩
  · have hlt := (World.ownsRow.lt h.own g rfl).2
    have hc := World.ownsRow.cells (g := g) h.own rfl
    refine ⟨_, _, _, rfl, rfl, .inr ⟨g, 0, rfl, (World.ownsRow.lt h.own g rfl).1, hlt, fun j ns hj => ?_⟩⟩
    obtain ⟨A', n', c', h1, h3, h4, h5, h6⟩ := h.els j ns hj
    have k1 := hc _ _ h1
    rw [Go.Addr.add_mid] at k1
    exact ⟨A', n', c', k1, h3, h4, h5, fun b' o' e => (h6 b' o' e).2.2⟩
theorem info1S : (Try.prog.info? 26).map (fun i => (i.zero, i.size, i.bytes)) = some (some (.slice none 0 0), 1, 24) := by kernel_rfl
theorem newS (w : World) (a : Value) (ty : TypeId) (g : Nat) (hg : g = w.heap.size) : ∀ j u, [a][j]? = some u → (w.alloc (.cells #[a] ty)).cell? ((⟨g, 0, none⟩ : Addr).add j) = some u := by
  subst hg
  intro j u hj
  rw [Go.Addr.add_mid]
  match j, hj with
  | 0, hj => simpa using hj
theorem oneS (A : Option Addr) (n c : Nat) : ∀ u ∈ [Value.slice A n c], u.oneCell' = true := by
  intro u hu
  simp at hu
  rw [hu]
  rfl

theorem wpList_app0I {ops : Array Oper} {rest : List Oper} {o : Oper} {a : Act} {w : World} {Q : Exit → Act → World → Prop} (hgd : o.guard = none) (s x : Operand)
    (ho : o.op = .call { callee := .builtin .append, args := #[s, x], argTypes := #[26, 26] }) (b0 : Addr) (p : Option Addr) (c : Nat)
    (hs : a.eval s = .slice (some b0) 0 0) (hx : a.eval x = .slice p 0 c) (h : wpList Try.prog ops Q rest (a.put o.dst (.slice (some b0) 0 0)) w) : wpList Try.prog ops Q (o :: rest) a w :=
  wpList_plain hgd fun _ hK => by
    have hr := run_app0I w o.type b0 p c
    unfold Oper.wp execOp
    simp only [ho, resolve, invoke, builtin, Sem.run_bind, Sem.run_pure, Result.andThen_ok, List.map_toArray, List.map_cons, List.map_nil, hs, hx, hr]
    exact hK _ _ h
/-- A clone: the call's own. -/
def Cloned (w : World) (ns : List Int) (e : Ending) (w' : World) : Prop := ∃ v, e = .returned v ∧ Own1 3 w.heap.size w' v ns ∧ Bel w w'
set_option maxRecDepth 100000 in
set_option maxHeartbeats 400000 in
theorem clone_any (A : Option Addr) (n c : Nat) (ns : List Int) (w : World) (hR : Ints w A ns) (hn : ns.length = n) (hmax : n ≤ 100) :
    Calls Try.prog 107 #[.slice A n c] w (Cloned w ns) := by
  obtain ⟨i0, hi, hz0, hz1, hz2⟩ := info_parts info1I
  have hnil := fun (w : World) (a : Option Addr) (l c : Nat) => Go.run_eql_slice_nil (P := Try.prog) w 26 3 a l c Try.underlying26
  have Hn := Lib.hid hn
  clear hn
  by_cases h0 : n = 0
  · subst h0
    have hns : ns = [] := List.eq_nil_of_length_eq_zero Hn.out
    subst hns
    rcases A with _ | a
    · go_enter Try.func107, Try.ntmps107
      go_wp2
      go_ret
      exact ⟨_, rfl, Own1.nil _ _ _, Bel.refl _⟩
    · go_enter Try.func107, Try.ntmps107
      go_wp2_with (at_builtin; go_loud (refine wpList_app0I rfl (.tmp 5) (.tmp 6) rfl ⟨w.heap.size, 0, none⟩ _ _ (by rfl) (by rfl) ?_))
      go_ret
      exact ⟨_, rfl, World.ownsRow_lit w #[] 0 (Nat.le_refl _) (by unfold maxLen; omega) rfl, by (repeat (first | exact Bel.refl _ | assumption | refine Bel.drew ?_ | refine Bel.drewN ?_ _ | refine Bel.alloc ?_ _ | refine Bel.setCell ?_ (by first | omega | (simp; done) | (simp; omega) | (simp at *; omega)) _ | refine Bel.trans ?_ (by assumption)))⟩
  · have hpos : 0 < n := by omega
    obtain ⟨b1, b2, rfl, hbl1, hnw⟩ := hR.news (by intro e; rw [e] at Hn; have := Hn.out; simp at this; omega)
    have hnews : Hid (∀ w', Bel w w' → ∀ j u, (ns.map fun x => Value.int .i64 x)[j]? = some u → w'.cell? ((⟨b1, b2, none⟩ : Addr).add j) = some u) := by
      intro w' hb' j u hj
      have := hnw j u hj
      rw [Go.Addr.add_mid] at this ⊢
      rw [hb'.use.1 _ _ hbl1]
      exact this
    have hlit : Hid ((w.alloc (.cells #[] 3)).ownsRow w.heap.size 3 1 (.slice (some ⟨w.heap.size, 0, none⟩) 0 0) 0 []) := World.ownsRow_lit w #[] 0 (Nat.le_refl _) (by unfold maxLen; omega) rfl
    have hX3 := Lib.hid (show 0 + n ≤ maxLen by unfold maxLen; omega)
    have hX4 := Lib.hid (show (0 + n) * 8 ≤ 140737488355328 by omega)
    clear hnw h0
    go_enter Try.func107, Try.ntmps107
    go_wp2_with (at_builtin; go_loud (refine wpList_append_lies _ rfl (.tmp 5) (.tmp 6) 26 rfl w.heap.size 3 i0 _ 1 8 Try.underlying26 hi hz0 hz1 hz2 rfl (by decide) _ 0 [] (by rfl) hlit.out ⟨b1, b2, none⟩ n c (ns.map fun x => .int .i64 x) (by rfl) (by rw [List.length_map, Hn.out, Nat.mul_one]) (hnews.out _ (by (repeat (first | exact Bel.refl _ | assumption | refine Bel.drew ?_ | refine Bel.drewN ?_ _ | refine Bel.alloc ?_ _ | refine Bel.setCell ?_ (by first | omega | (simp; done) | (simp; omega) | (simp at *; omega)) _ | refine Bel.trans ?_ (by assumption))))) (one_map _) hpos hX3.out hX4.out (by simp) _ rfl ?_); intro g3 cap3 w3'; rw [show 0 + n = n from Nat.zero_add n, List.nil_append]; intro hown3 hgr3 hat3 hlt3)
    have hB3 := grown_own (w := w) ((Bel.refl w).alloc _) hlit.out (Nat.le_refl _) hgr3
    rw [← Hn.out] at hown3
    have HO := Lib.hid (show Own1 3 w.heap.size w3' _ ns from hown3)
    rw [Hn.out] at HO
    clear hown3 hgr3 hat3 hlt3
    go_ret
    exact ⟨_, rfl, HO.out, hB3⟩
/-- All cells of a row, and how many of them are elements. -/
abbrev RowZ := List Int × Nat
def visZ (z : RowZ) : List Int := z.1.take z.2
/-- The slice at A reads as the rows Z, with their spare cells. -/
def TabZ (w : World) (A : Option Addr) (Z : List RowZ) : Prop :=
  Z = [] ∨ ∃ b o, A = some ⟨b, o, none⟩ ∧ b < w.heap.size ∧ ∀ (j : Nat) (zs : List Int) (m : Nat), Z[j]? = some (zs, m) →
    ∃ A' c', w.cell? ⟨b, o + j, none⟩ = some (.slice A' m c') ∧ Ints w A' zs ∧ zs.length = c' ∧ m ≤ c' ∧ (A' = none → c' = 0) ∧ c' * 8 ≤ reachN
theorem TabZ.bel {w w' : World} {A : Option Addr} {Z : List RowZ} (h : TabZ w A Z) (hb : Bel w w') : TabZ w' A Z := by
  rcases h with h | ⟨b, o, rfl, hl, hc⟩
  · exact .inl h
  · refine .inr ⟨b, o, rfl, Nat.lt_of_lt_of_le hl hb.use.2.2, fun j zs m hj => ?_⟩
    obtain ⟨A', c', h1, h3, h4⟩ := hc j zs m hj
    exact ⟨A', c', by rw [hb.use.1 _ _ hl]; exact h1, h3.bel hb, h4⟩
theorem TabZ.at_ {w : World} {A : Option Addr} {Z : List RowZ} (h : TabZ w A Z) {k : Nat} (hk : k < Z.length) :
    ∃ b o zs m A' c', A = some ⟨b, o, none⟩ ∧ b < w.heap.size ∧ Z[k]? = some (zs, m) ∧ w.cell? ⟨b, o + k, none⟩ = some (.slice A' m c') ∧ Ints w A' zs ∧ zs.length = c' ∧ m ≤ c' ∧ (A' = none → c' = 0) ∧ c' * 8 ≤ reachN := by
  rcases h with rfl | ⟨b, o, rfl, hl, hc⟩
  · simp at hk
  · have hg' : Z[k]? = some (Z[k].1, Z[k].2) := by rw [List.getElem?_eq_getElem hk]
    obtain ⟨A', c', h1, h3, h4⟩ := hc k _ _ hg'
    exact ⟨b, o, _, _, A', c', rfl, hl, hg', h1, h3, h4⟩
/-- Its elements, as they are read. -/
theorem TabZ.tab {w : World} {A : Option Addr} {Z : List RowZ} (h : TabZ w A Z) (n : Nat) : Tab 0 w A ((Z.take n).map visZ) := by
  rcases h with rfl | ⟨b, o, rfl, hl, hc⟩
  · exact .inl (by simp)
  · refine .inr ⟨b, o, rfl, Nat.zero_le _, hl, fun j ns hj => ?_⟩
    simp only [List.getElem?_map, Option.map_eq_some_iff] at hj
    obtain ⟨⟨zs, m⟩, hz, he⟩ := hj
    subst he
    have hz' : Z[j]? = some (zs, m) := by
      rw [List.getElem?_take] at hz
      split at hz
      · exact hz
      · cases hz
    obtain ⟨A', c', h1, h3, h4, h5, _, h7⟩ := hc j zs m hz'
    exact ⟨A', m, c', h1, h3.take m, by simp only [visZ, List.length_take]; omega, Nat.le_trans h5 (reachN_le h7 (by omega)).2, fun _ _ _ => Nat.zero_le _⟩
/-- A table that came in: the first n of c cells are its rows. -/
structure ArgT (w : World) (A : Option Addr) (n c : Nat) (Z : List RowZ) : Prop where
  tab : TabZ w A Z
  len : Z.length = c
  le : n ≤ c
  nil : A = none → c = 0
  reach : c * 24 ≤ reachN
theorem ArgT.bel {w w' : World} {A : Option Addr} {n c : Nat} {Z : List RowZ} (h : ArgT w A n c Z) (hb : Bel w w') : ArgT w' A n c Z := ⟨h.tab.bel hb, h.len, h.le, h.nil, h.reach⟩
theorem ArgT.els {w : World} {A : Option Addr} {n c : Nat} {Z : List RowZ} (h : ArgT w A n c Z) : Tab 0 w A ((Z.take n).map visZ) ∧ ((Z.take n).map visZ).length = n ∧ n ≤ maxLen := by
  have h1 := h.len
  have h2 := h.le
  have h3 := h.reach
  exact ⟨h.tab.tab n, by rw [List.length_map, List.length_take]; omega, Nat.le_trans h2 (reachN_le h3 (by omega)).2⟩
def KeptT (w : World) (Z : List RowZ) (e : Ending) (w' : World) : Prop := ∃ A n c, e = .returned (.slice A n c) ∧ n = Z.length ∧ Bel w w' ∧ Tab w.heap.size w' A (Z.map Prod.fst)
end Go.Proofs.Ytahkihifgafbnaa
