/- Arguments that are kept: all cells of a slice copied, and compared. -/
import Derived.Test.YtmbhhooiaonhjaaK
import Derived.Deep.AppendSrc
namespace Go.Proofs.Ytmbhhooiaonhjaa
open Go.RowKit

/-- The cells of pairs. -/
def cel2 (l : List (Int × Int)) : List Value := l.flatMap fun p => [.int .i64 p.1, .int .i64 p.2]
theorem cel2_length (l : List (Int × Int)) : (cel2 l).length = l.length * 2 := by
  induction l with
  | nil => rfl
  | cons p r ih => simp only [cel2, List.flatMap_cons, List.length_append, List.length_cons, List.length_nil] at ih ⊢; omega
theorem cel2_at (l : List (Int × Int)) (j : Nat) : (cel2 l)[j * 2]? = (l[j]?).map (fun p => Value.int .i64 p.1) ∧ (cel2 l)[j * 2 + 1]? = (l[j]?).map (fun p => Value.int .i64 p.2) := by
  induction l generalizing j with
  | nil => simp [cel2]
  | cons p r ih =>
    have e : cel2 (p :: r) = .int .i64 p.1 :: .int .i64 p.2 :: cel2 r := rfl
    rw [e]
    match j with
    | 0 => simp
    | j + 1 =>
      have := ih j
      rw [show (j + 1) * 2 = j * 2 + 1 + 1 from by omega]
      simpa using this
theorem cel2_one (l : List (Int × Int)) : ∀ u ∈ cel2 l, u.oneCell' = true := by
  intro u hu
  obtain ⟨p, _, hp⟩ := List.mem_flatMap.1 hu
  simp at hp
  rcases hp with rfl | rfl <;> rfl
/-- What is owned as pairs reads as pairs. -/
theorem prs_of_own {w : World} {base e n c : Nat} {A : Option Addr} {l : List (Int × Int)} (h : w.ownsRow base e 2 (.slice A n c) l.length (cel2 l)) : Prs w A l := by
  rcases h.2 with ⟨hv, h0⟩ | ⟨g, cap, cur, hv, hb, hg, hn, hm, hs, ht⟩
  · exact .inl (List.eq_nil_of_length_eq_zero h0)
  · injection hv with hA _ _
    subst hA
    have hlt := (h.lt g rfl).2
    have hc := h.cells (g := g) rfl
    refine .inr ⟨g, 0, rfl, hlt, fun j s m hj => ?_⟩
    have h1 := hc (j * 2) (.int .i64 s) (by rw [(cel2_at l j).1, hj]; rfl)
    have h2 := hc (j * 2 + 1) (.int .i64 m) (by rw [(cel2_at l j).2, hj]; rfl)
    rw [Go.Addr.add_mid] at h1 h2
    exact ⟨h1, h2⟩
theorem prs_cells {w : World} {a : Addr} {l : List (Int × Int)} (h : Prs w (some a) l) : ∀ j u, (cel2 l)[j]? = some u → w.cell? (a.add j) = some u := by
  intro j u hj
  rcases h with rfl | ⟨b, o, hA, _, hc⟩
  · simp [cel2] at hj
  · injection hA with hA
    subst hA
    rw [Go.Addr.add_mid]
    obtain ⟨i, hi⟩ : ∃ i, i = j / 2 := ⟨_, rfl⟩
    have hl : j < l.length * 2 := by rw [← cel2_length]; exact (List.getElem?_eq_some_iff.1 hj).1
    have hil : i < l.length := by omega
    obtain ⟨h1, h2⟩ := hc i l[i].1 l[i].2 (by rw [List.getElem?_eq_getElem hil])
    obtain ⟨e1, e2⟩ := cel2_at l i
    rw [List.getElem?_eq_getElem hil] at e1 e2
    rcases (by omega : j = i * 2 ∨ j = i * 2 + 1) with rfl | rfl
    · rw [e1] at hj
      simp at hj
      rw [← hj]
      exact h1
    · rw [e2] at hj
      simp at hj
      rw [← hj]
      exact h2

theorem own_form {w : World} {base e size n : Nat} {v : Value} {xs : List Value} (h : w.ownsRow base e size v n xs) : ∃ A m c, v = .slice A m c ∧ m = n := by
  rcases h.2 with ⟨rfl, h0⟩ | ⟨g, cap, cur, rfl, _⟩
  · exact ⟨_, _, _, rfl, h0.symm⟩
  · exact ⟨_, _, _, rfl, rfl⟩
/-- All cells of a slice, kept. -/
def Kept2 (w : World) (zs : List (Int × Int)) (e : Ending) (w' : World) : Prop :=
  ∃ A n c, e = .returned (.slice A n c) ∧ n = zs.length ∧ Bel w w' ∧ Prs w' A zs

theorem info2G : (Try.prog.info? 52).map (fun i => (i.zero, i.size, i.bytes)) = some (some (.agg #[.int .i64 0, .int .i64 0]), 2, 16) := by kernel_rfl

set_option maxHeartbeats 400000 in
theorem keepGrains_any (A : Option Addr) (n c : Nat) (zs : List (Int × Int)) (w : World) (hR : Prs w A zs) (hc : zs.length = c) (hn : n ≤ c) (h0 : A = none → c = 0) (hmax : c * 16 ≤ 140737488351232) :
    Calls Try.prog 6 #[.slice A n c] w (Kept2 w zs) := by
  obtain ⟨i0, hi, hz0, hz1, hz2⟩ := info_parts info2G
  rcases A with _ | a
  · have hc0 := h0 rfl
    subst hc0
    obtain rfl : n = 0 := by omega
    go_enter Try.func6, Try.ntmps6
    go_wp2
    go_ret
    exact ⟨_, _, _, rfl, hc.symm, by (repeat (first | exact Bel.refl _ | assumption | refine Bel.drew ?_ | refine Bel.drewN ?_ _ | refine Bel.alloc ?_ _ | refine Bel.setCell ?_ (by first | omega | (simp; done) | (simp; omega) | (simp at *; omega)) _ | refine Bel.trans ?_ (by assumption))), .inl (List.eq_nil_of_length_eq_zero hc)⟩
  · have hcells := prs_cells (hR.bel ((Bel.refl w).alloc (.cells #[] 52)))
    have Hc := Lib.hid hcells; clear hcells
    have hlen := cel2_length zs
    rw [hc] at hlen
    have Hl := Lib.hid hlen; clear hlen
    have HC := Lib.hid hc; clear hc
    have h63 : 0 + c ≤ maxLen := by unfold maxLen; omega
    have hby : (0 + c) * 16 ≤ 140737488355328 := by omega
    have H63 := Lib.hid h63; clear h63
    have Hby := Lib.hid hby; clear hby
    have hcl : (c : Int) ≤ 9223372036854775807 := by omega
    clear hmax
    go_enter Try.func6, Try.ntmps6
    go_wp2_with (at_builtin; go_loud (refine wpList_append_own _ rfl _ _ 22 rfl w.heap.size 52 i0 _ 2 16 Try.underlying22 hi hz0 hz1 hz2 rfl (by decide) _ 0 [] rfl (World.ownsRow_lit w #[] 0 (Nat.le_refl _) (by decide) rfl) a c c (cel2 zs) rfl Hl.out Hc.out (cel2_one zs) H63.out Hby.out (by simp) ?_); intro v' w' hown hgr _)
    go_ret
    have hb : Bel w w' := Bel.grown ((Bel.refl w).alloc _) (g := w.heap.size) hgr (Nat.le_refl _)
    simp only [Nat.zero_add, List.nil_append] at hown
    rw [← HC.out] at hown
    obtain ⟨A', n', c', rfl, hn'⟩ := own_form hown
    exact ⟨A', n', c', rfl, hn', hb, prs_of_own hown⟩

set_option maxHeartbeats 400000 in
theorem keptGrains_any (A B : Option Addr) (n c n' c' : Nat) (zs : List (Int × Int)) (w : World) (hA : Prs w A zs) (hB : Prs w B zs) (hc : zs.length = n) (hc' : zs.length = c') (_hn : n' ≤ c') (h0 : B = none → c' = 0) (hmax : c' ≤ 140737488351232) :
    Calls Try.prog 9 #[.slice A n c, .slice B n' c'] w fun e w' => e = .returned (.bool true) ∧ Bel w w' := by
  obtain rfl : n = c' := by omega
  have Hn := Lib.hid hc; clear hc hc'
  have h63 : (n : Int) ≤ 9223372036854775807 := by omega
  clear hmax
  rcases B with _ | ⟨b1, b2, b3⟩
  · have hn0 := h0 rfl
    subst hn0
    obtain rfl : n' = 0 := by omega
    go_enter Try.func9, Try.ntmps9
    go_wp2
    go_loopw [5] (fun i wr => i = .int .i64 0 ∧ Bel w wr) (fun _ _ => 0)
    case atStart => exact ⟨rfl, Bel.refl _⟩
    case round =>
      obtain ⟨rfl, hb⟩ := hrel
      go_wp2
      go_ret
      exact ⟨rfl, hb⟩
  · clear h0
    go_enter Try.func9, Try.ntmps9
    go_wp2
    go_loopw [5] (fun i wr => ∃ k : Nat, k ≤ n ∧ i = .int .i64 k ∧ Bel w wr) (fun i _ => n - (intOf i).toNat)
    case atStart => exact ⟨0, Nat.zero_le _, rfl, Bel.refl _⟩
    case round =>
      obtain ⟨k, hk, rfl, hb⟩ := hrel
      by_cases hlt : k < n
      · obtain ⟨b, o, s, m, rfl, hbl, hg, hc1, hc2⟩ := (hA.bel hb).at_ (k := k) (by rw [Hn.out]; exact hlt)
        obtain ⟨b', o', s', m', hB', hbl', hg', hc1', hc2'⟩ := (hB.bel hb).at_ (k := k) (by rw [Hn.out]; exact hlt)
        rw [hg] at hg'
        injection hg' with hg'
        injection hg' with hg1 hg2
        subst hg1 hg2
        injection hB' with hB'
        injection hB' with e1 e2 e3
        subst e1 e2 e3
        have hkn : (k : Int) < (n : Int) := by omega
        have hk0 : (0 : Int) ≤ (k : Int) := by omega
        clear hg
        go_wp2
        go_quiet (fail)
        go_wp2
        go_roundw
        case rel => exact ⟨k + 1, by omega, by go_num, by (repeat (first | exact Bel.refl _ | assumption | refine Bel.drew ?_ | refine Bel.drewN ?_ _ | refine Bel.alloc ?_ _ | refine Bel.setCell ?_ (by first | omega | (simp; done) | (simp; omega) | (simp at *; omega)) _ | refine Bel.trans ?_ (by assumption)))⟩
        case measure => simp [intOf]; omega
      · obtain rfl : k = n := by omega
        go_wp2
        go_ret
        exact ⟨rfl, hb⟩
end Go.Proofs.Ytmbhhooiaonhjaa

