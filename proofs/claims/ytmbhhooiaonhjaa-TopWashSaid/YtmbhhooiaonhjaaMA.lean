/- Slices of moves: read, kept, compared, opened. -/
import Derived.Test.YtmbhhooiaonhjaaO
namespace Go.Proofs.Ytmbhhooiaonhjaa
open Go.ChangeShapes Go.WideShapes Go.ChangeAt Go.RowKit Go.Joins

/-- The slice at A reads as the moves ms (three cells each). -/
def Trs (w : World) (A : Option Addr) (ms : List (Int × Int × Int)) : Prop :=
  ms = [] ∨ ∃ b o, A = some ⟨b, o, none⟩ ∧ b < w.heap.size ∧ ∀ j f t m, ms[j]? = some (f, t, m) → w.cell? ⟨b, o + j * 3, none⟩ = some (.int .i64 f) ∧ w.cell? ⟨b, o + j * 3 + 1, none⟩ = some (.int .i64 t) ∧ w.cell? ⟨b, o + j * 3 + 2, none⟩ = some (.int .i64 m)
theorem Trs.bel {w w' : World} {A : Option Addr} {ms : List (Int × Int × Int)} (h : Trs w A ms) (hb : Bel w w') : Trs w' A ms := by
  rcases h with h | ⟨b, o, rfl, hl, hc⟩
  · exact .inl h
  · refine .inr ⟨b, o, rfl, Nat.lt_of_lt_of_le hl hb.use.2.2, fun j f t m hj => ?_⟩
    rw [hb.use.1 _ _ hl, hb.use.1 _ _ hl, hb.use.1 _ _ hl]
    exact hc j f t m hj
theorem Trs.at_ {w : World} {A : Option Addr} {ms : List (Int × Int × Int)} (h : Trs w A ms) {k : Nat} (hk : k < ms.length) :
    ∃ b o f t m, A = some ⟨b, o, none⟩ ∧ b < w.heap.size ∧ ms[k]? = some (f, t, m) ∧ w.cell? ⟨b, o + k * 3, none⟩ = some (.int .i64 f) ∧ w.cell? ⟨b, o + k * 3 + 1, none⟩ = some (.int .i64 t) ∧ w.cell? ⟨b, o + k * 3 + 2, none⟩ = some (.int .i64 m) := by
  rcases h with rfl | ⟨b, o, rfl, hl, hc⟩
  · simp at hk
  · have hg' : ms[k]? = some (ms[k].1, ms[k].2.1, ms[k].2.2) := by rw [List.getElem?_eq_getElem hk]
    exact ⟨b, o, _, _, _, rfl, hl, hg', hc k _ _ _ hg'⟩
theorem Trs.take {w : World} {A : Option Addr} {zs : List (Int × Int × Int)} (h : Trs w A zs) (n : Nat) : Trs w A (zs.take n) := by
  rcases h with rfl | ⟨b, o, rfl, hl, hc⟩
  · exact .inl (by simp)
  · refine .inr ⟨b, o, rfl, hl, fun j f t m hj => hc j f t m ?_⟩
    rw [List.getElem?_take] at hj
    split at hj
    · exact hj
    · cases hj
def cel3 (l : List (Int × Int × Int)) : List Value := l.flatMap fun p => [.int .i64 p.1, .int .i64 p.2.1, .int .i64 p.2.2]
theorem cel3_length (l : List (Int × Int × Int)) : (cel3 l).length = l.length * 3 := by
  induction l with
  | nil => rfl
  | cons p r ih => simp only [cel3, List.flatMap_cons, List.length_append, List.length_cons, List.length_nil] at ih ⊢; omega
theorem cel3_at (l : List (Int × Int × Int)) (j : Nat) : (cel3 l)[j * 3]? = (l[j]?).map (fun p => Value.int .i64 p.1) ∧ (cel3 l)[j * 3 + 1]? = (l[j]?).map (fun p => Value.int .i64 p.2.1) ∧ (cel3 l)[j * 3 + 2]? = (l[j]?).map (fun p => Value.int .i64 p.2.2) := by
  induction l generalizing j with
  | nil => simp [cel3]
  | cons p r ih =>
    have e : cel3 (p :: r) = .int .i64 p.1 :: .int .i64 p.2.1 :: .int .i64 p.2.2 :: cel3 r := rfl
    rw [e]
    match j with
    | 0 => simp
    | j + 1 =>
      have := ih j
      rw [show (j + 1) * 3 = j * 3 + 1 + 1 + 1 from by omega]
      simpa using this
theorem cel3_one (l : List (Int × Int × Int)) : ∀ u ∈ cel3 l, u.oneCell' = true := by
  intro u hu
  obtain ⟨p, _, hp⟩ := List.mem_flatMap.1 hu
  simp at hp
  rcases hp with rfl | rfl | rfl <;> rfl
theorem trs_of_own {w : World} {base e n c : Nat} {A : Option Addr} {l : List (Int × Int × Int)} (h : w.ownsRow base e 3 (.slice A n c) l.length (cel3 l)) : Trs w A l := by
  rcases h.2 with ⟨hv, h0⟩ | ⟨g, cap, cur, hv, hb, hg, hn, hm, hs, ht⟩
  · exact .inl (List.eq_nil_of_length_eq_zero h0)
  · injection hv with hA _ _
    subst hA
    have hlt := (h.lt g rfl).2
    have hc := h.cells (g := g) rfl
    refine .inr ⟨g, 0, rfl, hlt, fun j f t m hj => ?_⟩
    have h1 := hc (j * 3) (.int .i64 f) (by rw [(cel3_at l j).1, hj]; rfl)
    have h2 := hc (j * 3 + 1) (.int .i64 t) (by rw [(cel3_at l j).2.1, hj]; rfl)
    have h3 := hc (j * 3 + 2) (.int .i64 m) (by rw [(cel3_at l j).2.2, hj]; rfl)
    rw [Go.Addr.add_mid] at h1 h2 h3
    exact ⟨h1, h2, h3⟩
theorem trs_cells {w : World} {a : Addr} {l : List (Int × Int × Int)} (h : Trs w (some a) l) : ∀ j u, (cel3 l)[j]? = some u → w.cell? (a.add j) = some u := by
  intro j u hj
  rcases h with rfl | ⟨b, o, hA, _, hc⟩
  · simp [cel3] at hj
  · injection hA with hA
    subst hA
    rw [Go.Addr.add_mid]
    obtain ⟨i, hi⟩ : ∃ i, i = j / 3 := ⟨_, rfl⟩
    have hl : j < l.length * 3 := by rw [← cel3_length]; exact (List.getElem?_eq_some_iff.1 hj).1
    have hil : i < l.length := by omega
    obtain ⟨h1, h2, h3⟩ := hc i l[i].1 l[i].2.1 l[i].2.2 (by rw [List.getElem?_eq_getElem hil])
    obtain ⟨e1, e2, e3⟩ := cel3_at l i
    rw [List.getElem?_eq_getElem hil] at e1 e2 e3
    rcases (by omega : j = i * 3 ∨ j = i * 3 + 1 ∨ j = i * 3 + 2) with rfl | rfl | rfl
    · rw [e1] at hj
      simp at hj
      rw [← hj]
      exact h1
    · rw [e2] at hj
      simp at hj
      rw [← hj]
      exact h2
    · rw [e3] at hj
      simp at hj
      rw [← hj]
      exact h3
/-- All cells of a slice of moves, kept. -/
def Kept3 (w : World) (zs : List (Int × Int × Int)) (e : Ending) (w' : World) : Prop :=
  ∃ A n c, e = .returned (.slice A n c) ∧ n = zs.length ∧ Bel w w' ∧ Trs w' A zs
theorem info3M : (Try.prog.info? 70).map (fun i => (i.zero, i.size, i.bytes)) = some (some (.agg #[.int .i64 0, .int .i64 0, .int .i64 0]), 3, 24) := by kernel_rfl

set_option maxHeartbeats 400000 in
theorem keepMoves_any (A : Option Addr) (n c : Nat) (zs : List (Int × Int × Int)) (w : World) (hR : Trs w A zs) (hc : zs.length = c) (hn : n ≤ c) (h0 : A = none → c = 0) (hmax : c * 24 ≤ 140737488351232) :
    Calls Try.prog 12 #[.slice A n c] w (Kept3 w zs) := by
  obtain ⟨i0, hi, hz0, hz1, hz2⟩ := info_parts info3M
  rcases A with _ | a
  · have hc0 := h0 rfl
    subst hc0
    obtain rfl : n = 0 := by omega
    go_enter Try.func12, Try.ntmps12
    go_wp2
    go_ret
    exact ⟨_, _, _, rfl, hc.symm, by (repeat (first | exact Bel.refl _ | assumption | refine Bel.drew ?_ | refine Bel.drewN ?_ _ | refine Bel.alloc ?_ _ | refine Bel.setCell ?_ (by first | omega | (simp; done) | (simp; omega) | (simp at *; omega)) _ | refine Bel.trans ?_ (by assumption))), .inl (List.eq_nil_of_length_eq_zero hc)⟩
  · have hcells := trs_cells (hR.bel ((Bel.refl w).alloc (.cells #[] 70)))
    have Hc := Lib.hid hcells; clear hcells
    have hlen := cel3_length zs
    rw [hc] at hlen
    have Hl := Lib.hid hlen; clear hlen
    have HC := Lib.hid hc; clear hc
    have h63 : 0 + c ≤ maxLen := by unfold maxLen; omega
    have hby : (0 + c) * 24 ≤ 140737488355328 := by omega
    have H63 := Lib.hid h63; clear h63
    have Hby := Lib.hid hby; clear hby
    have hcl : (c : Int) ≤ 9223372036854775807 := by omega
    clear hmax
    go_enter Try.func12, Try.ntmps12
    go_wp2_with (at_builtin; go_loud (refine wpList_append_own _ rfl _ _ 32 rfl w.heap.size 70 i0 _ 3 24 Try.underlying32 hi hz0 hz1 hz2 rfl (by decide) _ 0 [] rfl (World.ownsRow_lit w #[] 0 (Nat.le_refl _) (by decide) rfl) a c c (cel3 zs) rfl Hl.out Hc.out (cel3_one zs) H63.out Hby.out (by simp) ?_); intro v' w' hown hgr _)
    go_ret
    have hb : Bel w w' := Bel.grown ((Bel.refl w).alloc _) (g := w.heap.size) hgr (Nat.le_refl _)
    simp only [Nat.zero_add, List.nil_append] at hown
    rw [← HC.out] at hown
    obtain ⟨A', n', c', rfl, hn'⟩ := own_form hown
    exact ⟨A', n', c', rfl, hn', hb, trs_of_own hown⟩

set_option maxHeartbeats 400000 in
theorem keptMoves_any (A B : Option Addr) (n c n' c' : Nat) (zs : List (Int × Int × Int)) (w : World) (hA : Trs w A zs) (hB : Trs w B zs) (hc : zs.length = n) (hc' : zs.length = c') (_hn : n' ≤ c') (h0 : B = none → c' = 0) (hmax : c' ≤ 140737488351232) :
    Calls Try.prog 14 #[.slice A n c, .slice B n' c'] w fun e w' => e = .returned (.bool true) ∧ Bel w w' := by
  obtain rfl : n = c' := by omega
  have Hn := Lib.hid hc; clear hc hc'
  have h63 : (n : Int) ≤ 9223372036854775807 := by omega
  clear hmax
  rcases B with _ | ⟨b1, b2, b3⟩
  · have hn0 := h0 rfl
    subst hn0
    obtain rfl : n' = 0 := by omega
    go_enter Try.func14, Try.ntmps14
    go_wp2
    go_loopw [5] (fun i wr => i = .int .i64 0 ∧ Bel w wr) (fun _ _ => 0)
    case atStart => exact ⟨rfl, Bel.refl _⟩
    case round =>
      obtain ⟨rfl, hb⟩ := hrel
      go_wp2
      go_ret
      exact ⟨rfl, hb⟩
  · clear h0
    go_enter Try.func14, Try.ntmps14
    go_wp2
    go_loopw [5] (fun i wr => ∃ k : Nat, k ≤ n ∧ i = .int .i64 k ∧ Bel w wr) (fun i _ => n - (intOf i).toNat)
    case atStart => exact ⟨0, Nat.zero_le _, rfl, Bel.refl _⟩
    case round =>
      obtain ⟨k, hk, rfl, hb⟩ := hrel
      by_cases hlt : k < n
      · obtain ⟨b, o, s, m, y, rfl, hbl, hg, hc1, hc2, hc3⟩ := (hA.bel hb).at_ (k := k) (by rw [Hn.out]; exact hlt)
        obtain ⟨b', o', s', m', y', hB', hbl', hg', hc1', hc2', hc3'⟩ := (hB.bel hb).at_ (k := k) (by rw [Hn.out]; exact hlt)
        rw [hg] at hg'
        injection hg' with hg'
        injection hg' with hg1 hg2
        injection hg2 with hg2 hg3
        subst hg1 hg2 hg3
        injection hB' with hB'
        injection hB' with e1 e2 e3
        subst e1 e2 e3
        have hkn : (k : Int) < (n : Int) := by omega
        have hk0 : (0 : Int) ≤ (k : Int) := by omega
        clear hg
        go_wp2
        go_quiet (fail)
        go_wp2
        go_roundw
        case rel => exact ⟨k + 1, by omega, by go_num, by (repeat (first | exact Bel.refl _ | assumption | refine Bel.drew ?_ | refine Bel.drewN ?_ _ | refine Bel.alloc ?_ _ | refine Bel.setCell ?_ (by first | omega | (simp; done) | (simp; omega) | (simp at *; omega)) _ | refine Bel.trans ?_ (by assumption)))⟩
        case measure => simp [intOf]; omega
      · obtain rfl : k = n := by omega
        go_wp2
        go_ret
        exact ⟨rfl, hb⟩

/-- A slice of moves that came in: its first n of c cells are its elements. -/
structure Arg3 (w : World) (A : Option Addr) (n c : Nat) (zs : List (Int × Int × Int)) : Prop where
  trs : Trs w A zs
  len : zs.length = c
  le : n ≤ c
  nil : A = none → c = 0
  reach : c * 24 ≤ reachN
theorem Arg3.els {w : World} {A : Option Addr} {n c : Nat} {zs : List (Int × Int × Int)} (h : Arg3 w A n c zs) : Trs w A (zs.take n) ∧ (zs.take n).length = n ∧ n ≤ maxLen := by
  have h1 := h.len
  have h2 := h.le
  have h3 := h.reach
  exact ⟨h.trs.take n, by rw [List.length_take]; omega, Nat.le_trans h2 (reachN_le h3 (by omega)).2⟩
theorem Arg3.bel {w w' : World} {A : Option Addr} {n c : Nat} {zs : List (Int × Int × Int)} (h : Arg3 w A n c zs) (hb : Bel w w') : Arg3 w' A n c zs := ⟨h.trs.bel hb, h.len, h.le, h.nil, h.reach⟩
end Go.Proofs.Ytmbhhooiaonhjaa

