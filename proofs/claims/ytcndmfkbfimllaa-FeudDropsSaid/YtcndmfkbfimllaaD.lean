/- Slices of pairs that read as lists, that a call makes, that are kept. -/
import Derived.Test.YtcndmfkbfimllaaC
namespace Go.Proofs.Ytcndmfkbfimllaa
open Go.RowKit

/-- The slice at A reads as the pairs gs (two cells each). -/
def Prs (w : World) (A : Option Addr) (gs : List (Int × Int)) : Prop :=
  gs = [] ∨ ∃ b o, A = some ⟨b, o, none⟩ ∧ b < w.heap.size ∧ ∀ j s m, gs[j]? = some (s, m) → w.cell? ⟨b, o + j * 2, none⟩ = some (.int .i64 s) ∧ w.cell? ⟨b, o + j * 2 + 1, none⟩ = some (.int .i64 m)
theorem Prs.bel {w w' : World} {A : Option Addr} {gs : List (Int × Int)} (h : Prs w A gs) (hb : Bel w w') : Prs w' A gs := by
  rcases h with h | ⟨b, o, rfl, hl, hc⟩
  · exact .inl h
  · refine .inr ⟨b, o, rfl, Nat.lt_of_lt_of_le hl hb.use.2.2, fun j s m hj => ?_⟩
    rw [hb.use.1 _ _ hl, hb.use.1 _ _ hl]
    exact hc j s m hj
theorem Prs.at_ {w : World} {A : Option Addr} {gs : List (Int × Int)} (h : Prs w A gs) {k : Nat} (hk : k < gs.length) :
    ∃ b o s m, A = some ⟨b, o, none⟩ ∧ b < w.heap.size ∧ gs[k]? = some (s, m) ∧ w.cell? ⟨b, o + k * 2, none⟩ = some (.int .i64 s) ∧ w.cell? ⟨b, o + k * 2 + 1, none⟩ = some (.int .i64 m) := by
  rcases h with rfl | ⟨b, o, rfl, hl, hc⟩
  · simp at hk
  · have hg' : gs[k]? = some (gs[k].1, gs[k].2) := by rw [List.getElem?_eq_getElem hk]
    exact ⟨b, o, _, _, rfl, hl, hg', hc k _ _ hg'⟩
theorem mem_take {α : Type} {l : List α} {P : α → Prop} (h : ∀ x ∈ l, P x) (k : Nat) : ∀ x ∈ l.take k, P x := fun x hx => h x (List.mem_of_mem_take hx)
/-- The cells of pairs. -/
def cel2 (l : List (Int × Int)) : List Value := l.flatMap fun p => [.int .i64 p.1, .int .i64 p.2]
theorem cel2_length (l : List (Int × Int)) : (cel2 l).length = l.length * 2 := by
  induction l with
  | nil => rfl
  | cons p r ih => simp only [cel2, List.flatMap_cons, List.length_append, List.length_cons, List.length_nil] at ih ⊢; omega
theorem cel2_at (l : List (Int × Int)) (j : Nat) : (cel2 l)[j * 2]? = (l[j]?).map (fun p => Value.int .i64 p.1) ∧ (cel2 l)[j * 2 + 1]? = (l[j]?).map (fun p => Value.int .i64 p.2) := by
  induction l generalizing j with
  | nil => simp [cel2]
  | cons p r ih =>
    have e : cel2 (p :: r) = .int .i64 p.1 :: .int .i64 p.2 :: cel2 r := rfl
    rw [e]
    match j with
    | 0 => simp
    | j + 1 =>
      have := ih j
      rw [show (j + 1) * 2 = j * 2 + 1 + 1 from by omega]
      simpa using this
theorem cel2_one (l : List (Int × Int)) : ∀ u ∈ cel2 l, u.oneCell' = true := by
  intro u hu
  obtain ⟨p, _, hp⟩ := List.mem_flatMap.1 hu
  simp at hp
  rcases hp with rfl | rfl <;> rfl
/-- What is owned as pairs reads as pairs. -/
theorem prs_of_own {w : World} {base e n c : Nat} {A : Option Addr} {l : List (Int × Int)} (h : w.ownsRow base e 2 (.slice A n c) l.length (cel2 l)) : Prs w A l := by
  rcases h.2 with ⟨hv, h0⟩ | ⟨g, cap, cur, hv, hb, hg, hn, hm, hs, ht⟩
  · exact .inl (List.eq_nil_of_length_eq_zero h0)
  · injection hv with hA _ _
    subst hA
    have hlt := (h.lt g rfl).2
    have hc := h.cells (g := g) rfl
    refine .inr ⟨g, 0, rfl, hlt, fun j s m hj => ?_⟩
    have h1 := hc (j * 2) (.int .i64 s) (by rw [(cel2_at l j).1, hj]; rfl)
    have h2 := hc (j * 2 + 1) (.int .i64 m) (by rw [(cel2_at l j).2, hj]; rfl)
    rw [Go.Addr.add_mid] at h1 h2
    exact ⟨h1, h2⟩
theorem prs_cells {w : World} {a : Addr} {l : List (Int × Int)} (h : Prs w (some a) l) : ∀ j u, (cel2 l)[j]? = some u → w.cell? (a.add j) = some u := by
  intro j u hj
  rcases h with rfl | ⟨b, o, hA, _, hc⟩
  · simp [cel2] at hj
  · injection hA with hA
    subst hA
    rw [Go.Addr.add_mid]
    obtain ⟨i, hi⟩ : ∃ i, i = j / 2 := ⟨_, rfl⟩
    have hl : j < l.length * 2 := by rw [← cel2_length]; exact (List.getElem?_eq_some_iff.1 hj).1
    have hil : i < l.length := by omega
    obtain ⟨h1, h2⟩ := hc i l[i].1 l[i].2 (by rw [List.getElem?_eq_getElem hil])
    obtain ⟨e1, e2⟩ := cel2_at l i
    rw [List.getElem?_eq_getElem hil] at e1 e2
    rcases (by omega : j = i * 2 ∨ j = i * 2 + 1) with rfl | rfl
    · rw [e1] at hj
      simp at hj
      rw [← hj]
      exact h1
    · rw [e2] at hj
      simp at hj
      rw [← hj]
      exact h2
theorem own_form {w : World} {base e size n : Nat} {v : Value} {xs : List Value} (h : w.ownsRow base e size v n xs) : ∃ A m c, v = .slice A m c ∧ m = n := by
  rcases h.2 with ⟨rfl, h0⟩ | ⟨g, cap, cur, rfl, _⟩
  · exact ⟨_, _, _, rfl, h0.symm⟩
  · exact ⟨_, _, _, rfl, rfl⟩
theorem Bel.grown {a w b : World} {g : Nat} (h : Bel a b) (k : b.grownBy w (some g)) (hg : a.heap.size ≤ g) : Bel a w :=
  Below.grown h k h.size (fun i hi => by injection hi with hi; omega)
/-- All cells of a slice, kept. -/
def Kept2 (w : World) (zs : List (Int × Int)) (e : Ending) (w' : World) : Prop :=
  ∃ A n c, e = .returned (.slice A n c) ∧ n = zs.length ∧ Bel w w' ∧ Prs w' A zs
theorem info2F : (Try.prog.info? 45).map (fun i => (i.zero, i.size, i.bytes)) = some (some (.agg #[.int .i64 0, .int .i64 0]), 2, 16) := by kernel_rfl
set_option maxHeartbeats 400000 in
theorem keepFeuds_any (A : Option Addr) (n c : Nat) (zs : List (Int × Int)) (w : World) (hR : Prs w A zs) (hc : zs.length = c) (hn : n ≤ c) (h0 : A = none → c = 0) (hmax : c * 16 ≤ 140737488351232) :
    Calls Try.prog 17 #[.slice A n c] w (Kept2 w zs) := by
  obtain ⟨i0, hi, hz0, hz1, hz2⟩ := info_parts info2F
  rcases A with _ | a
  · have hc0 := h0 rfl
    subst hc0
    obtain rfl : n = 0 := by omega
    go_enter Try.func17, Try.ntmps17
    go_wp2
    go_ret
    exact ⟨_, _, _, rfl, hc.symm, by (repeat (first | exact Bel.refl _ | assumption | refine Bel.drew ?_ | refine Bel.drewN ?_ _ | refine Bel.alloc ?_ _ | refine Bel.setCell ?_ (by first | omega | (simp; done) | (simp; omega) | (simp at *; omega)) _ | refine Bel.trans ?_ (by assumption))), .inl (List.eq_nil_of_length_eq_zero hc)⟩
  · have hcells := prs_cells (hR.bel ((Bel.refl w).alloc (.cells #[] 45)))
    have Hc := Lib.hid hcells; clear hcells
    have hlen := cel2_length zs
    rw [hc] at hlen
    have Hl := Lib.hid hlen; clear hlen
    have HC := Lib.hid hc; clear hc
    have h63 : 0 + c ≤ maxLen := by unfold maxLen; omega
    have hby : (0 + c) * 16 ≤ 140737488355328 := by omega
    have H63 := Lib.hid h63; clear h63
    have Hby := Lib.hid hby; clear hby
    have hcl : (c : Int) ≤ 9223372036854775807 := by omega
    clear hmax
    go_enter Try.func17, Try.ntmps17
    go_wp2_with (at_builtin; go_loud (refine wpList_append_own _ rfl _ _ 22 rfl w.heap.size 45 i0 _ 2 16 Try.underlying22 hi hz0 hz1 hz2 rfl (by decide) _ 0 [] rfl (World.ownsRow_lit w #[] 0 (Nat.le_refl _) (by decide) rfl) a c c (cel2 zs) rfl Hl.out Hc.out (cel2_one zs) H63.out Hby.out (by simp) ?_); intro v' w' hown hgr _)
    go_ret
    have hb : Bel w w' := Bel.grown ((Bel.refl w).alloc _) (g := w.heap.size) hgr (Nat.le_refl _)
    simp only [Nat.zero_add, List.nil_append] at hown
    rw [← HC.out] at hown
    obtain ⟨A', n', c', rfl, hn'⟩ := own_form hown
    exact ⟨A', n', c', rfl, hn', hb, prs_of_own hown⟩
set_option maxHeartbeats 400000 in
theorem keptFeuds_any (A B : Option Addr) (n c n' c' : Nat) (zs : List (Int × Int)) (w : World) (hA : Prs w A zs) (hB : Prs w B zs) (hc : zs.length = n) (hc' : zs.length = c') (_hn : n' ≤ c') (h0 : B = none → c' = 0) (hmax : c' ≤ 140737488351232) :
    Calls Try.prog 20 #[.slice A n c, .slice B n' c'] w fun e w' => e = .returned (.bool true) ∧ Bel w w' := by
  obtain rfl : n = c' := by omega
  have Hn := Lib.hid hc; clear hc hc'
  have h63 : (n : Int) ≤ 9223372036854775807 := by omega
  clear hmax
  rcases B with _ | ⟨b1, b2, b3⟩
  · have hn0 := h0 rfl
    subst hn0
    obtain rfl : n' = 0 := by omega
    go_enter Try.func20, Try.ntmps20
    go_wp2
    go_loopw [5] (fun i wr => i = .int .i64 0 ∧ Bel w wr) (fun _ _ => 0)
    case atStart => exact ⟨rfl, Bel.refl _⟩
    case round =>
      obtain ⟨rfl, hb⟩ := hrel
      go_wp2
      go_ret
      exact ⟨rfl, hb⟩
  · clear h0
    go_enter Try.func20, Try.ntmps20
    go_wp2
    go_loopw [5] (fun i wr => ∃ k : Nat, k ≤ n ∧ i = .int .i64 k ∧ Bel w wr) (fun i _ => n - (intOf i).toNat)
    case atStart => exact ⟨0, Nat.zero_le _, rfl, Bel.refl _⟩
    case round =>
      obtain ⟨k, hk, rfl, hb⟩ := hrel
      by_cases hlt : k < n
      · obtain ⟨b, o, s, m, rfl, hbl, hg, hc1, hc2⟩ := (hA.bel hb).at_ (k := k) (by rw [Hn.out]; exact hlt)
        obtain ⟨b', o', s', m', hB', hbl', hg', hc1', hc2'⟩ := (hB.bel hb).at_ (k := k) (by rw [Hn.out]; exact hlt)
        rw [hg] at hg'
        injection hg' with hg'
        injection hg' with hg1 hg2
        subst hg1 hg2
        injection hB' with hB'
        injection hB' with e1 e2 e3
        subst e1 e2 e3
        have hkn : (k : Int) < (n : Int) := by omega
        have hk0 : (0 : Int) ≤ (k : Int) := by omega
        clear hg
        go_wp2
        go_quiet (fail)
        go_wp2
        go_roundw
        case rel => exact ⟨k + 1, by omega, by go_num, by (repeat (first | exact Bel.refl _ | assumption | refine Bel.drew ?_ | refine Bel.drewN ?_ _ | refine Bel.alloc ?_ _ | refine Bel.setCell ?_ (by first | omega | (simp; done) | (simp; omega) | (simp at *; omega)) _ | refine Bel.trans ?_ (by assumption)))⟩
        case measure => simp [intOf]; omega
      · obtain rfl : k = n := by omega
        go_wp2
        go_ret
        exact ⟨rfl, hb⟩
theorem reach0 (k : Nat) : 0 * k ≤ reachN := by simp
/-- A slice of pairs that came in: its first n of c cells are its elements. -/
structure Arg2 (w : World) (A : Option Addr) (n c : Nat) (zs : List (Int × Int)) : Prop where
  prs : Prs w A zs
  len : zs.length = c
  le : n ≤ c
  nil : A = none → c = 0
  reach : c * 16 ≤ reachN
/-- A part of what reads reads. -/
theorem Prs.take {w : World} {A : Option Addr} {zs : List (Int × Int)} (h : Prs w A zs) (n : Nat) : Prs w A (zs.take n) := by
  rcases h with rfl | ⟨b, o, rfl, hl, hc⟩
  · exact .inl (by simp)
  · refine .inr ⟨b, o, rfl, hl, fun j s m hj => hc j s m ?_⟩
    rw [List.getElem?_take] at hj
    split at hj
    · exact hj
    · cases hj
theorem Arg2.els {w : World} {A : Option Addr} {n c : Nat} {zs : List (Int × Int)} (h : Arg2 w A n c zs) : Prs w A (zs.take n) ∧ (zs.take n).length = n ∧ n ≤ maxLen := by
  have h1 := h.len
  have h2 := h.le
  have h3 := h.reach
  exact ⟨h.prs.take n, by rw [List.length_take]; omega, Nat.le_trans h2 (reachN_le h3 (by omega)).2⟩
theorem Arg2.bel {w w' : World} {A : Option Addr} {n c : Nat} {zs : List (Int × Int)} (h : Arg2 w A n c zs) (hb : Bel w w') : Arg2 w' A n c zs := ⟨h.prs.bel hb, h.len, h.le, h.nil, h.reach⟩
/-- The slice v is the call's own, from block 'base' on, and holds the pairs l. -/
def Own2 (e : TypeId) (base : Nat) (w : World) (v : Value) (l : List (Int × Int)) : Prop := w.ownsRow base e 2 v l.length (cel2 l)
/-- Two own slices lie apart. -/
def Apart (u v : Value) : Prop := ∀ k, u.ownBlock = some k → v.ownBlock ≠ some k
theorem Apart.symm {u v : Value} (h : Apart u v) : Apart v u := fun k hk hk' => h k hk' hk
theorem apart_nil (v : Value) (n c : Nat) : Apart (.slice none n c) v := fun k hk => by cases hk
section
variable {e base : Nat} {w w' : World} {v u : Value} {l m : List (Int × Int)}
theorem Own2.nil (e base : Nat) (w : World) : Own2 e base w (.slice none 0 0) [] := World.ownsRow_nil _ _ _ _
theorem Own2.alloc (h : Own2 e base w v l) (o : Obj) : Own2 e base (w.alloc o) v l := World.ownsRow.alloc h o
theorem Own2.bel (h : Own2 e base w v l) (hb : Bel w w') : Own2 e base w' v l :=
  World.ownsRow.kept (row := none) h ⟨hb.os, hb.tape, hb.output, hb.size, fun k hk _ => hb.block k hk⟩ (by
    cases hv : v.ownBlock with
    | none => exact .inl rfl
    | some k => exact .inr (by simp))
theorem Own2.kept (h : Own2 e base w v l) (ha : Apart v u) (hg : w.grownBy w' u.ownBlock) : Own2 e base w' v l := by
  refine World.ownsRow.kept h hg ?_
  cases hv : v.ownBlock with
  | none => exact .inl rfl
  | some k => exact .inr (fun e => ha k hv e.symm)
theorem Own2.prs {A : Option Addr} {n c : Nat} (h : Own2 e base w (.slice A n c) l) : Prs w A l := prs_of_own h
theorem Own2.form (h : Own2 e base w v l) : ∃ A n c, v = .slice A n c ∧ n = l.length := own_form h
/-- Behind an append of one pair. -/
theorem Own2.snoc {a b : Int} (h : w'.ownsRow base e 2 v (l.length + 1) (cel2 l ++ [.int .i64 a, .int .i64 b])) : Own2 e base w' v (l ++ [(a, b)]) := by
  unfold Own2
  have e1 : (l ++ [(a, b)]).length = l.length + 1 := by simp
  have e2 : cel2 (l ++ [(a, b)]) = cel2 l ++ [.int .i64 a, .int .i64 b] := by simp [cel2]
  rw [e1, e2]
  exact h
theorem Own2.apart (h : Own2 e base w u m) (ha : Apart u v) {v' : Value} (hat : v'.ownBlock = v.ownBlock ∨ v'.ownBlock = some w.heap.size) : Apart u v' := by
  intro k hk hk'
  rcases hat with hat | hat
  · exact ha k hk (hat ▸ hk')
  · have := (World.ownsRow.lt h k hk).2
    rw [hat] at hk'
    injection hk' with hk'
    omega
theorem Bel.own {w0 : World} (hb : Bel w0 w) (ho : Own2 e base w v l) (hg : w.grownBy w' v.ownBlock) (h0 : w0.heap.size ≤ base) : Bel w0 w' :=
  Below.grown hb hg hb.size (fun k hk => Nat.le_trans h0 (World.ownsRow.lt ho k hk).1)
end
theorem Prs.cellsAt {w : World} {b o k : Nat} {gs : List (Int × Int)} {s m : Int} (h : Prs w (some ⟨b, o, none⟩) gs) (hg : gs[k]? = some (s, m)) :
    w.cell? ⟨b, o + k * 2, none⟩ = some (.int .i64 s) ∧ w.cell? ⟨b, o + k * 2 + 1, none⟩ = some (.int .i64 m) := by
  rcases h with rfl | ⟨b', o', hA, _, hc⟩
  · simp at hg
  · injection hA with hA
    injection hA with e1 e2
    subst e1 e2
    exact hc k s m hg
/-- The one pair that is appended lies in a new block. -/
theorem new2 (w : World) (a b : Int) (ty : TypeId) : ∀ j u, [Value.int .i64 a, .int .i64 b][j]? = some u → (w.alloc (.cells #[.int .i64 a, .int .i64 b] ty)).cell? ((⟨w.heap.size, 0, none⟩ : Addr).add j) = some u := by
  intro j u hj
  rw [Go.Addr.add_mid]
  match j, hj with
  | 0, hj => simpa using hj
  | 1, hj => simpa using hj
theorem one2 (a b : Int) : ∀ u ∈ [Value.int .i64 a, .int .i64 b], u.oneCell' = true := by
  intro u hu
  simp at hu
  rcases hu with rfl | rfl <;> rfl
end Go.Proofs.Ytcndmfkbfimllaa
