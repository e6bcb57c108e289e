/- slices.Concat at tables; compoundsOf, elementsOf, isSide; Long, many. -/
import Derived.Test.YtfjegdejfccgaaaE
import Derived.Deep.SlicePairs
namespace Go.Proofs.Ytfjegdejfccgaaa
open Go.RowKit

/-- These values are slices that read as the lists T. -/
structure RowsV (w : World) (vs : List Value) (T : List (List Int)) : Prop where
  len : vs.length = T.length
  els : ∀ (j : Nat) (ns : List Int), T[j]? = some ns → ∃ A' n' c', vs[j]? = some (.slice A' n' c') ∧ Ints w A' ns ∧ ns.length = n' ∧ n' ≤ maxLen
theorem RowsV.one {w : World} {vs : List Value} {T : List (List Int)} (h : RowsV w vs T) : ∀ u ∈ vs, u.oneCell' = true := by
  intro u hu
  obtain ⟨j, hj⟩ := List.mem_iff_getElem?.1 hu
  have hl : j < T.length := by rw [← h.len]; exact (List.getElem?_eq_some_iff.1 hj).1
  obtain ⟨A', n', c', h1, _⟩ := h.els j _ (List.getElem?_eq_getElem hl)
  rw [hj] at h1
  injection h1 with h1
  rw [h1]
  rfl
theorem RowsV.append {w : World} {vs us : List Value} {T S : List (List Int)} (h : RowsV w vs T) (k : RowsV w us S) : RowsV w (vs ++ us) (T ++ S) := by
  refine ⟨by simp [h.len, k.len], fun j ns hj => ?_⟩
  have hl := h.len
  by_cases hlt : j < T.length
  · rw [List.getElem?_append_left hlt] at hj
    rw [List.getElem?_append_left (by omega)]
    exact h.els j ns hj
  · rw [List.getElem?_append_right (by omega)] at hj
    rw [List.getElem?_append_right (by omega), hl]
    exact k.els _ ns hj
/-- A table's cells. -/
theorem Tab.vals {lo : Nat} {w : World} {A : Option Addr} {T : List (List Int)} (h : Tab lo w A T) (hT : T ≠ []) :
    ∃ b o vs, A = some ⟨b, o, none⟩ ∧ b < w.heap.size ∧ (∀ j u, vs[j]? = some u → w.cell? ((⟨b, o, none⟩ : Addr).add j) = some u) ∧ RowsV w vs T := by
  rcases h with h | ⟨b, o, rfl, hlo, hl, hc⟩
  · exact absurd h hT
  · have each : ∀ i, i < T.length → ∃ x : Value × List Int, T[i]? = some x.2 ∧ (∃ A' n' c', x.1 = .slice A' n' c' ∧ Ints w A' x.2 ∧ x.2.length = n' ∧ n' ≤ maxLen) ∧ w.cell? ⟨b, o + i, none⟩ = some x.1 := by
      intro i hi
      obtain ⟨A', n', c', h1, h3, h4, h5, _⟩ := hc i _ (List.getElem?_eq_getElem hi)
      exact ⟨(.slice A' n' c', T[i]), List.getElem?_eq_getElem hi, ⟨A', n', c', rfl, h3, h4, h5⟩, h1⟩
    obtain ⟨f, hf⟩ := Go.Deep.choose_lt each
    refine ⟨b, o, (List.range T.length).map fun i => (f i).1, rfl, hl, fun j u hj => ?_, by simp, fun j ns hj => ?_⟩
    · simp only [List.getElem?_map, Option.map_eq_some_iff] at hj
      obtain ⟨i, hi, rfl⟩ := hj
      obtain ⟨hil, e⟩ := List.getElem?_eq_some_iff.1 hi
      simp at hil e
      subst e
      rw [Go.Addr.add_mid]
      exact (hf j hil).2.2
    · have hjl := (List.getElem?_eq_some_iff.1 hj).1
      obtain ⟨k1, ⟨A', n', c', k2, k3, k4, k5⟩, _⟩ := hf j hjl
      rw [hj] at k1
      injection k1 with k1
      rw [← k1] at k3 k4
      refine ⟨A', n', c', ?_, k3, k4, k5⟩
      rw [List.getElem?_map, List.getElem?_range hjl]
      simp [k2]
theorem Tab.of_own {w w' : World} {base n g cap e : Nat} {vs : List Value} {T : List (List Int)} (h : w'.ownsRow base e 1 (.slice (some ⟨g, 0, none⟩) n cap) n vs) (hb : Bel w w') (hR : RowsV w vs T) : Tab 0 w' (some ⟨g, 0, none⟩) T := by
  have hlt := (World.ownsRow.lt h g rfl).2
  have hc := World.ownsRow.cells (g := g) h rfl
  refine .inr ⟨g, 0, rfl, Nat.zero_le _, hlt, fun j ns hj => ?_⟩
  obtain ⟨A', n', c', h1, h3, h4, h5⟩ := hR.els j ns hj
  have k1 := hc _ _ h1
  rw [Go.Addr.add_mid] at k1
  exact ⟨A', n', c', k1, h3.bel hb, h4, h5, fun _ _ _ => Nat.zero_le _⟩
def NewT (w : World) (T : List (List Int)) (e : Ending) (w' : World) : Prop := ∃ A n c, e = .returned (.slice A n c) ∧ n = T.length ∧ Bel w w' ∧ Tab 0 w' A T
def szL (n m k : Nat) : Nat := if k = 0 then 0 else if k = 1 then n else n + m
def vsL (vs us : List Value) (k : Nat) : List Value := if k = 0 then [] else if k = 1 then vs else vs ++ us
set_option maxRecDepth 100000 in
set_option maxHeartbeats 1000000 in
theorem concat_any (g : Nat) (A B : Option Addr) (n c m d : Nat) (X Y : List (List Int)) (w : World) (hc0 : w.cell? ⟨g, 0, none⟩ = some (.slice A n c)) (hc1 : w.cell? ⟨g, 1, none⟩ = some (.slice B m d)) (hg : g < w.heap.size)
    (hX : Tab 0 w A X) (hY : Tab 0 w B Y) (hn : X.length = n) (hm : Y.length = m) (n1 : 1 ≤ n) (n10 : n ≤ 10) (m1 : 1 ≤ m) (m10 : m ≤ 10) :
    Calls Try.prog 109 #[.slice (some ⟨g, 0, none⟩) 2 2] w (NewT w (X ++ Y)) := by
  obtain ⟨i0, hi, hz0, hz1, hz2⟩ := info_parts info1T
  obtain ⟨ab, ao, vs, rfl, hal, hav, hVX⟩ := hX.vals (by intro e; rw [e] at hn; simp at hn; omega)
  obtain ⟨bb, bo, us, rfl, hbl, hbv, hVY⟩ := hY.vals (by intro e; rw [e] at hm; simp at hm; omega)
  have HN := Lib.hid hn; have HM := Lib.hid hm
  have HVX := Lib.hid hVX; have HVY := Lib.hid hVY
  have hni : (n : Int) ≤ 10 := by omega
  have hmi : (m : Int) ≤ 10 := by omega
  have HAV : Hid (∀ w', Bel w w' → ∀ j u, vs[j]? = some u → w'.cell? ((⟨ab, ao, none⟩ : Addr).add j) = some u) := by
    intro w' h j u hj
    have := hav j u hj
    rw [Go.Addr.add_mid] at this ⊢
    rw [h.use.1 _ _ hal]
    exact this
  have HBV : Hid (∀ w', Bel w w' → ∀ j u, us[j]? = some u → w'.cell? ((⟨bb, bo, none⟩ : Addr).add j) = some u) := by
    intro w' h j u hj
    have := hbv j u hj
    rw [Go.Addr.add_mid] at this ⊢
    rw [h.use.1 _ _ hbl]
    exact this
  have Held := Lib.hid (fun w' (h : Bel w w') => show w'.cell? ⟨g, 0, none⟩ = some (.slice (some ⟨ab, ao, none⟩) n c) ∧ w'.cell? ⟨g, 1, none⟩ = some (.slice (some ⟨bb, bo, none⟩) m d) from ⟨by rw [h.use.1 _ _ hg]; exact hc0, by rw [h.use.1 _ _ hg]; exact hc1⟩)
  clear hn hm hVX hVY hav hbv hX hY
  go_enter Try.func109, Try.ntmps109
  go_wp2
  go_loop [3, 11] (fun s i => ∃ k : Nat, k ≤ 2 ∧ i = .int .i64 k ∧ s = .int .i64 (szL n m k : Nat)) (fun _ i => 2 - (intOf i).toNat)
  case atStart => exact ⟨0, by omega, rfl, rfl⟩
  case round =>
    obtain ⟨k, hk, rfl, rfl⟩ := hrel
    rcases (by omega : k = 0 ∨ k = 1 ∨ k = 2) with rfl | rfl | rfl
    · have e0 : szL n m 0 = 0 := rfl
      rw [e0]
      clear e0
      go_wp2
      go_round
      case rel => exact ⟨1, by omega, by go_num, by simp [szL]⟩
      case measure => simp [intOf]
    · have e0 : szL n m 1 = n := rfl
      rw [e0]
      clear e0
      have h0 : ¬ ((n : Int) + (m : Int) < 0) := by omega
      go_wp2
      go_round
      case rel => exact ⟨2, by omega, by go_num, by simp [szL]⟩
      case measure => simp [intOf]
    · have e0 : szL n m 2 = n + m := rfl
      rw [e0]
      clear e0
      go_wp2_with fail
      refine (grow_any (n + m) w (by omega) (by omega)).mono ?_
      rintro e w1 ⟨cap, rfl, hb1, hO1⟩
      have HO1 := Lib.hid hO1.own
      clear hO1
      go_wp2
      go_loopw [6, 27] (fun v i wr => ∃ k : Nat, k ≤ 2 ∧ i = .int .i64 k ∧ Bel w wr ∧ wr.ownsRow w.heap.size 28 1 v (szL n m k) (vsL vs us k)) (fun _ i _ => 2 - (intOf i).toNat)
      case atStart => exact ⟨0, by omega, rfl, hb1, HO1.out⟩
      case round =>
        clear HO1
        obtain ⟨k, hk, rfl, hb, hO⟩ := hrel
        have hbs := hb.size
        obtain ⟨q0, q1⟩ := Held.out _ hb
        rcases (by omega : k = 0 ∨ k = 1 ∨ k = 2) with rfl | rfl | rfl
        · have hO' : wr.ownsRow w.heap.size 28 1 u6 0 [] := hO
          have HO := Lib.hid hO'
          clear hO hO' q1
          have hX1 := Lib.hid (show 0 + n ≤ maxLen by unfold maxLen; omega)
          have hX2 := Lib.hid (show (0 + n) * 24 ≤ 140737488355328 by omega)
          go_wp2_with (at_builtin; go_loud (refine wpList_append_lies _ rfl (.tmp 31) (.tmp 32) 22 rfl w.heap.size 28 i0 _ 1 24 Try.underlying22 hi hz0 hz1 hz2 rfl (by decide) _ 0 [] (by rfl) HO.out ⟨ab, ao, none⟩ n c vs (by rfl) (by rw [HVX.out.len, HN.out, Nat.mul_one]) (HAV.out _ hb) HVX.out.one (by omega) hX1.out hX2.out hbs _ rfl ?_); intro g3 cap3 w3; rw [show 0 + n = n from Nat.zero_add n, List.nil_append]; intro hown3 hgr3 hat3 hlt3)
          have hB3 := Lib.hid (grown_own (w := w) hb HO.out (Nat.le_refl _) hgr3)
          have HO3 := Lib.hid hown3
          clear hown3 hgr3 hat3 hlt3
          go_roundw
          case rel => exact ⟨1, by omega, by go_num, hB3.out, HO3.out⟩
          case measure => simp [intOf]
        · have hO' : wr.ownsRow w.heap.size 28 1 u6 n vs := hO
          have HO := Lib.hid hO'
          clear hO hO' q0
          have hX1 := Lib.hid (show n + m ≤ maxLen by unfold maxLen; omega)
          have hX2 := Lib.hid (show (n + m) * 24 ≤ 140737488355328 by omega)
          go_wp2_with (at_builtin; go_loud (refine wpList_append_lies _ rfl (.tmp 31) (.tmp 32) 22 rfl w.heap.size 28 i0 _ 1 24 Try.underlying22 hi hz0 hz1 hz2 rfl (by decide) _ n vs (by rfl) HO.out ⟨bb, bo, none⟩ m d us (by rfl) (by rw [HVY.out.len, HM.out, Nat.mul_one]) (HBV.out _ hb) HVY.out.one (by omega) hX1.out hX2.out hbs _ rfl ?_); intro g3 cap3 w3 hown3 hgr3 hat3 hlt3)
          have hB3 := Lib.hid (grown_own (w := w) hb HO.out (Nat.le_refl _) hgr3)
          have HO3 := Lib.hid hown3
          clear hown3 hgr3 hat3 hlt3
          go_roundw
          case rel => exact ⟨2, by omega, by go_num, hB3.out, HO3.out⟩
          case measure => simp [intOf]
        · have hO' : wr.ownsRow w.heap.size 28 1 u6 (n + m) (vs ++ us) := hO
          obtain ⟨g9, cap9, rfl, _, _⟩ := hO'.form (by omega)
          have HO := Lib.hid hO'
          clear hO hO' q0 q1
          go_wp2
          go_ret
          exact ⟨_, _, _, rfl, by rw [List.length_append, HN.out, HM.out], hb, Tab.of_own HO.out hb (HVX.out.append HVY.out)⟩
end Go.Proofs.Ytfjegdejfccgaaa
