/- slices.Collect, Sort, Sorted: a list in ascending order, in new memory. -/
import Derived.Test.YtmckoehkekkldaaBG
namespace Go.Proofs.Ytmckoehkekkldaa
open Go.RowKit

theorem sort_own {base : Nat} {v : Value} {l : List Int} {w : World} (hO : Own1 3 base w v l) (hne : l ≠ []) (hl : l.length ≤ 1000) :
    Calls Try.prog 116 #[v] w fun e w' => e = .returned (.tuple #[]) ∧ Own1 3 base w' v (l.mergeSort fun x y => decide (x ≤ y)) ∧ w.grownBy w' v.ownBlock := by
  have hml : (l.mergeSort fun x y => decide (x ≤ y)).length = l.length := List.length_mergeSort l
  rcases hO.2 with ⟨rfl, h0⟩ | ⟨g, cap, cur, rfl, hb, hg, hn, hm, hs, ht⟩
  · exact absurd (List.eq_nil_of_length_eq_zero h0) hne
  · have hlt : g < w.heap.size := (Array.getElem?_eq_some_iff.1 hg).1
    refine (slices_Sort_int g 0 cap l w (holds_of_blockI hg (by simpa using ht)) hlt (by omega)).mono ?_
    rintro e w' ⟨rfl, n, os, rfl⟩
    refine ⟨rfl, ?_, grownBy_sortedI _⟩
    have h := ownsRow_sortedI (base := base) (n := n) (os := os) (ss := l) (ts := l.mergeSort fun x y => decide (x ≤ y)) hml hb hg hn hm hs
    unfold Own1
    rw [hml]
    exact h
set_option maxRecDepth 100000 in
set_option maxHeartbeats 1000000 in
theorem collect_any (Bt : Nat) (A : Option Addr) (n c : Nat) (ns : List Int) (w : World) (hn : ns.length = n) (hm : n ≤ 100) (hBl : Bt < w.heap.size) (hBt : w.cell? ⟨Bt, 0, none⟩ = some (.slice A n c)) (hI : IntsS (· < w.heap.size) w A ns) :
    Calls Try.prog 115 #[.func (.func 117) #[] #[.pointer (some ⟨Bt, 0, none⟩)]] w fun e w' => ∃ v, e = .returned v ∧ Own1 3 (w.heap.size + 1) w' v ns ∧ Bel w w' := by
  go_enter Try.func115, Try.ntmps115
  go_wp2_with fail
  refine (appendSeq_any Bt A n c ns _ hn hm hBl hBt hI).mono ?_
  rintro e w1 ⟨v, rfl, hO, hb⟩
  obtain ⟨A', n', c', rfl, -, -⟩ := hO.form
  have HO := Lib.hid hO
  clear hO
  go_wp2
  go_ret
  exact ⟨_, rfl, HO.out, hb⟩
set_option maxRecDepth 100000 in
set_option maxHeartbeats 1000000 in
theorem sorted_any (Bt : Nat) (A : Option Addr) (n c : Nat) (ns : List Int) (w : World) (hn : ns.length = n) (hn1 : 1 ≤ n) (hm : n ≤ 100) (hBl : Bt < w.heap.size) (hBt : w.cell? ⟨Bt, 0, none⟩ = some (.slice A n c)) (hI : IntsS (· < w.heap.size) w A ns) :
    Calls Try.prog 107 #[.func (.func 117) #[] #[.pointer (some ⟨Bt, 0, none⟩)]] w fun e w' => ∃ v, e = .returned v ∧ Own1 3 (w.heap.size + 1) w' v (ns.mergeSort fun x y => decide (x ≤ y)) ∧ Bel w w' := by
  have HNE := Lib.hid (show ns ≠ [] from fun e => by rw [e] at hn; simp at hn; omega)
  have HL := Lib.hid (show ns.length ≤ 1000 by omega)
  go_enter Try.func107, Try.ntmps107
  go_wp2_with fail
  refine (collect_any Bt A n c ns _ hn hm hBl hBt hI).mono ?_
  rintro e w1 ⟨v, rfl, hO, hb⟩
  obtain ⟨A', n', c', rfl, -, -⟩ := hO.form
  have HO := Lib.hid hO
  clear hO hn hBt hI
  go_wp2_with fail
  refine (sort_own HO.out HNE.out HL.out).mono ?_
  rintro e w2 ⟨rfl, hO2, hg2⟩
  have HO2 := Lib.hid hO2
  have HB := Lib.hid (grown_own (w := w) hb HO.out (by omega) hg2)
  clear hO2 hg2
  go_wp2
  go_ret
  exact ⟨_, rfl, HO2.out, HB.out⟩
end Go.Proofs.Ytmckoehkekkldaa
