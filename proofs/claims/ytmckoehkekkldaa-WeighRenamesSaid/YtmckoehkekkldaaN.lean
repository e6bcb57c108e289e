/- Lists of cases; all cases; the list of a mark. -/
import Derived.Test.YtmckoehkekkldaaK
import Derived.Deep.Onto
namespace Go.Proofs.Ytmckoehkekkldaa
open Go.RowKit

/-- The slice at A reads as the pairs gs (two cells each). -/
def Prs (w : World) (A : Option Addr) (gs : List (Int × Int)) : Prop :=
  gs = [] ∨ ∃ b o, A = some ⟨b, o, none⟩ ∧ b < w.heap.size ∧ ∀ j s m, gs[j]? = some (s, m) → w.cell? ⟨b, o + j * 2, none⟩ = some (.int .i64 s) ∧ w.cell? ⟨b, o + j * 2 + 1, none⟩ = some (.int .i64 m)
theorem Prs.bel {w w' : World} {A : Option Addr} {gs : List (Int × Int)} (h : Prs w A gs) (hb : Bel w w') : Prs w' A gs := by
  rcases h with h | ⟨b, o, rfl, hl, hc⟩
  · exact .inl h
  · refine .inr ⟨b, o, rfl, Nat.lt_of_lt_of_le hl hb.use.2.2, fun j s m hj => ?_⟩
    rw [hb.use.1 _ _ hl, hb.use.1 _ _ hl]
    exact hc j s m hj
theorem Prs.at_ {w : World} {A : Option Addr} {gs : List (Int × Int)} (h : Prs w A gs) {k : Nat} (hk : k < gs.length) :
    ∃ b o s m, A = some ⟨b, o, none⟩ ∧ b < w.heap.size ∧ gs[k]? = some (s, m) ∧ w.cell? ⟨b, o + k * 2, none⟩ = some (.int .i64 s) ∧ w.cell? ⟨b, o + k * 2 + 1, none⟩ = some (.int .i64 m) := by
  rcases h with rfl | ⟨b, o, rfl, hl, hc⟩
  · simp at hk
  · have hg' : gs[k]? = some (gs[k].1, gs[k].2) := by rw [List.getElem?_eq_getElem hk]
    exact ⟨b, o, _, _, rfl, hl, hg', hc k _ _ hg'⟩
/-- The cells of pairs. -/
def cel2 (l : List (Int × Int)) : List Value := l.flatMap fun p => [.int .i64 p.1, .int .i64 p.2]
theorem cel2_length (l : List (Int × Int)) : (cel2 l).length = l.length * 2 := by
  induction l with
  | nil => rfl
  | cons p r ih => simp only [cel2, List.flatMap_cons, List.length_append, List.length_cons, List.length_nil] at ih ⊢; omega
theorem cel2_at (l : List (Int × Int)) (j : Nat) : (cel2 l)[j * 2]? = (l[j]?).map (fun p => Value.int .i64 p.1) ∧ (cel2 l)[j * 2 + 1]? = (l[j]?).map (fun p => Value.int .i64 p.2) := by
  induction l generalizing j with
  | nil => simp [cel2]
  | cons p r ih =>
    have e : cel2 (p :: r) = .int .i64 p.1 :: .int .i64 p.2 :: cel2 r := rfl
    rw [e]
    match j with
    | 0 => simp
    | j + 1 =>
      have := ih j
      rw [show (j + 1) * 2 = j * 2 + 1 + 1 from by omega]
      simpa using this
theorem cel2_one (l : List (Int × Int)) : ∀ u ∈ cel2 l, u.oneCell' = true := by
  intro u hu
  obtain ⟨p, _, hp⟩ := List.mem_flatMap.1 hu
  simp at hp
  rcases hp with rfl | rfl <;> rfl
/-- What is owned as pairs reads as pairs. -/
theorem prs_of_own {w : World} {base e n c : Nat} {A : Option Addr} {l : List (Int × Int)} (h : w.ownsRow base e 2 (.slice A n c) l.length (cel2 l)) : Prs w A l := by
  rcases h.2 with ⟨hv, h0⟩ | ⟨g, cap, cur, hv, hb, hg, hn, hm, hs, ht⟩
  · exact .inl (List.eq_nil_of_length_eq_zero h0)
  · injection hv with hA _ _
    subst hA
    have hlt := (h.lt g rfl).2
    have hc := h.cells (g := g) rfl
    refine .inr ⟨g, 0, rfl, hlt, fun j s m hj => ?_⟩
    have h1 := hc (j * 2) (.int .i64 s) (by rw [(cel2_at l j).1, hj]; rfl)
    have h2 := hc (j * 2 + 1) (.int .i64 m) (by rw [(cel2_at l j).2, hj]; rfl)
    rw [Go.Addr.add_mid] at h1 h2
    exact ⟨h1, h2⟩
theorem cel2_append (l m : List (Int × Int)) : cel2 (l ++ m) = cel2 l ++ cel2 m := by simp [cel2]
theorem info2C : (Try.prog.info? 24).map (fun i => (i.zero, i.size, i.bytes)) = some (some (.agg #[.int .i64 0, .int .i64 0]), 2, 16) := by kernel_rfl
/-- All cases of so many lots. -/
def casesL (n : Nat) : List (Int × Int) := (List.range n).flatMap fun i : Nat => [((i : Int), -1), ((i : Int), 1)]
theorem casesL_succ (n : Nat) : casesL (n + 1) = casesL n ++ [((n : Int), -1), ((n : Int), 1)] := by simp [casesL, List.range_succ]
theorem casesL_length (n : Nat) : (casesL n).length = n * 2 := by
  induction n with
  | zero => rfl
  | succ n ih => rw [casesL_succ, List.length_append, ih]; simp; omega
/-- The way of a case by its place. -/
def wayN (i : Nat) : Int := if i % 2 = 0 then -1 else 1
theorem wayN_or (i : Nat) : wayN i = 1 ∨ wayN i = -1 := by unfold wayN; split <;> simp
/-- The lot of a case by its place. -/
def lotN (i : Nat) : Nat := i / 2
theorem casesL_at : ∀ (n i : Nat), i < n * 2 → (casesL n)[i]? = some ((lotN i : Int), wayN i)
  | 0, i, h => by omega
  | n + 1, i, h => by
    have hl := casesL_length n
    rw [casesL_succ]
    by_cases h1 : i < n * 2
    · rw [List.getElem?_append_left (by omega)]
      exact casesL_at n i h1
    · rw [List.getElem?_append_right (by omega), hl]
      unfold wayN lotN
      rcases (by omega : i = n * 2 ∨ i = n * 2 + 1) with rfl | rfl
      · rw [Nat.sub_self, if_pos (by omega), show n * 2 / 2 = n from by omega]
        rfl
      · rw [show n * 2 + 1 - n * 2 = 1 from by omega, if_neg (by omega), show (n * 2 + 1) / 2 = n from by omega]
        rfl
theorem new4 (w : World) (a b c d : Value) (ty : TypeId) (g : Nat) (hg : g = w.heap.size) : ∀ j u, [a, b, c, d][j]? = some u → (w.alloc (.cells #[a, b, c, d] ty)).cell? ((⟨g, 0, none⟩ : Addr).add j) = some u := by
  subst hg
  intro j u hj
  rw [Go.Addr.add_mid]
  match j, hj with
  | 0, hj => simpa using hj
  | 1, hj => simpa using hj
  | 2, hj => simpa using hj
  | 3, hj => simpa using hj
theorem one4 (a b c d : Int) : ∀ u ∈ [Value.int .i64 a, .int .i64 b, .int .i64 c, .int .i64 d], u.oneCell' = true := by
  intro u hu
  simp at hu
  rcases hu with rfl | rfl | rfl | rfl <;> rfl
def Own2 (e base : Nat) (w : World) (v : Value) (l : List (Int × Int)) : Prop := w.ownsRow base e 2 v l.length (cel2 l)
theorem Own2.form {e base : Nat} {w : World} {v : Value} {l : List (Int × Int)} (h : Own2 e base w v l) : ∃ A n c, v = .slice A n c ∧ n = l.length ∧ Prs w A l ∧ n ≤ c := by
  rcases h.2 with ⟨rfl, h0⟩ | ⟨g, cap, cur, rfl, hb, hg, hn, hm, hs, ht⟩
  · exact ⟨none, 0, 0, rfl, by omega, .inl (List.eq_nil_of_length_eq_zero h0), Nat.le_refl _⟩
  · exact ⟨_, _, _, rfl, rfl, prs_of_own h, by omega⟩

set_option maxRecDepth 100000 in
set_option maxHeartbeats 1000000 in
theorem allCases_any (n : Nat) (w : World) (hn : n ≤ 13) : Calls Try.prog 90 #[.int .i64 (n : Int)] w fun e w' => ∃ A c, e = .returned (.slice A (n * 2) c) ∧ n * 2 ≤ c ∧ Bel w w' ∧ Prs w' A (casesL n) := by
  obtain ⟨i0, hi, hz0, hz1, hz2⟩ := info_parts info2C
  go_enter Try.func90, Try.ntmps90
  go_wp2
  go_loopw [3, 4, 6] (fun v _ i wr => ∃ k : Nat, k ≤ n ∧ i = .int .i64 k ∧ Bel w wr ∧ Own2 24 w.heap.size wr v (casesL k)) (fun _ _ i _ => n - (intOf i).toNat)
  case atStart => exact ⟨0, Nat.zero_le _, rfl, Bel.refl _, World.ownsRow_nil _ _ _ _⟩
  case round =>
    obtain ⟨k, hk, rfl, hb, hO⟩ := hrel
    by_cases hlt : k < n
    · have hki : (k : Int) < (n : Int) := by omega
      have hO1 : wr.ownsRow w.heap.size 24 2 u3 (k * 2) (cel2 (casesL k)) := by have := hO; unfold Own2 at this; rw [casesL_length] at this; exact this
      have hX1 := Lib.hid (show k * 2 + 2 ≤ maxLen by unfold maxLen; omega)
      have hX2 := Lib.hid (show (k * 2 + 2) * 16 ≤ 140737488355328 by omega)
      have hbase := hb.size
      go_wp2_with (at_builtin; go_loud (refine wpList_append_lies _ rfl (.tmp 9) (.tmp 14) 55 rfl w.heap.size 24 i0 _ 2 16 Try.underlying55 hi hz0 hz1 hz2 rfl (by decide) u3 (k * 2) (cel2 (casesL k)) (by rfl) (hO1.alloc _) ⟨wr.heap.size, 0, none⟩ 2 2 [.int .i64 (k : Int), .int .i64 (-1), .int .i64 (k : Int), .int .i64 1] (by rfl) rfl (new4 _ _ _ _ _ _ _ rfl) (one4 _ _ _ _) (by omega) hX1.out hX2.out (by simp <;> omega) _ rfl ?_); intro g3 cap3 w3 hown3 hgr3 hat3 hlt3)
      have hB3 := grown_own (w := w) (hb.alloc _) hO1 (Nat.le_refl _) hgr3
      have hO3 : Own2 24 w.heap.size w3 (.slice (some ⟨g3, 0, none⟩) (k * 2 + 2) cap3) (casesL (k + 1)) := by
        unfold Own2
        rw [casesL_length, casesL_succ, cel2_append, show (k + 1) * 2 = k * 2 + 2 from by omega]
        exact hown3
      have HO3 := Lib.hid hO3
      clear hown3 hgr3 hat3 hlt3 hO hO1 hO3
      go_roundw
      case rel => exact ⟨k + 1, by omega, by go_num, hB3, HO3.out⟩
      case measure => simp [intOf]; omega
    · obtain rfl : k = n := by omega
      obtain ⟨A', n', c', rfl, hn', hI, hcap⟩ := hO.form
      rw [casesL_length] at hn'
      subst hn'
      go_wp2
      go_ret
      exact ⟨A', c', rfl, hcap, hb, hI⟩
/-- The first numbers of a mark. -/
def listL (f : Nat → Int) (k : Nat) : List Int := (List.range k).map f
set_option maxRecDepth 100000 in
set_option maxHeartbeats 1000000 in
theorem list_any (f : Nat → Int) (k : Nat) (w : World) (hk : k ≤ 3) : Calls Try.prog 81 #[.agg #[.int .i64 (f 0), .int .i64 (f 1), .int .i64 (f 2)], .int .i64 (k : Int)] w fun e w' => ∃ v, e = .returned v ∧ Own1 3 w.heap.size w' v (listL f k) ∧ Bel w w' := by
  have hki : (k : Int) ≤ 3 := by omega
  have hR : Ints (w.alloc (.cells #[.int .i64 (f 0), .int .i64 (f 1), .int .i64 (f 2)] 78)) (some ⟨w.heap.size, 0, none⟩) (listL f k) := by
    refine .inr ⟨_, 0, rfl, by simp, fun j v hj => ?_⟩
    unfold listL at hj
    simp only [List.getElem?_map, Option.map_eq_some_iff] at hj
    obtain ⟨i, hi, rfl⟩ := hj
    obtain ⟨hl, e⟩ := List.getElem?_eq_some_iff.1 hi
    simp at hl e
    subst e
    rcases (by omega : j = 0 ∨ j = 1 ∨ j = 2) with rfl | rfl | rfl <;> simp
  go_enter Try.func81, Try.ntmps81
  go_wp2_with fail
  refine (clone_any _ k 3 (listL f k) _ hR (by simp [listL]) (by omega)).mono ?_
  rintro e w1 ⟨v, rfl, hO, hb1⟩
  go_wp2
  go_ret
  exact ⟨v, rfl, World.ownsRow.mono hO (by simp), by (repeat (first | exact Bel.refl _ | assumption | refine Bel.drew ?_ | refine Bel.drewN ?_ _ | refine Bel.alloc ?_ _ | refine Bel.setCell ?_ (by first | omega | (simp; done) | (simp; omega) | (simp at *; omega)) _ | refine Bel.trans ?_ (by assumption)))⟩
theorem listL_mark (P : List Wg) (x : Int) : listL (markN P x) P.length = markL P x := by
  apply List.ext_getElem?
  intro i
  by_cases h : i < P.length
  · unfold listL
    rw [List.getElem?_map, List.getElem?_range h, markL, List.getElem?_map, List.getElem?_eq_getElem h]
    simp only [Option.map_some]
    rw [markN_at (List.getElem?_eq_getElem h)]
  · rw [List.getElem?_eq_none (by simp [listL]; omega), List.getElem?_eq_none (by rw [markL_length]; omega)]
end Go.Proofs.Ytmckoehkekkldaa
