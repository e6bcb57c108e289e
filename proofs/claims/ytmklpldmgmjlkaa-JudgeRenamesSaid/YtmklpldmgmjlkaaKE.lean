/- Slices of integers and of answers with their spare cells: kept, and as they were. -/
import Derived.Test.YtmklpldmgmjlkaaQO
import Derived.Deep.RegionHeldLaw
namespace Go.Proofs.Ytmklpldmgmjlkaa
open Go.RowKit

/-- The most bytes that a slice may take which came in. -/
def reachN : Nat := 140737488351232
theorem reachN_le {c k : Nat} (h : c * k ≤ reachN) (hk : 0 < k) : c ≤ 140737488351232 ∧ c ≤ maxLen := by
  unfold reachN at h
  have : c ≤ c * k := Nat.le_mul_of_pos_right _ hk
  unfold maxLen
  omega
theorem Ints.take {w : World} {A : Option Addr} {zs : List Int} (h : Ints w A zs) (n : Nat) : Ints w A (zs.take n) := by
  rcases h with rfl | ⟨b, o, rfl, hl, hc⟩
  · exact .inl (by simp)
  · refine .inr ⟨b, o, rfl, hl, fun j v hj => hc j v ?_⟩
    rw [List.getElem?_take] at hj
    split at hj
    · exact hj
    · cases hj
theorem ints_cells {w : World} {a : Addr} {l : List Int} (h : Ints w (some a) l) : ∀ j u, (l.map fun x => Value.int .i64 x)[j]? = some u → w.cell? (a.add j) = some u := by
  intro j u hj
  rcases h with rfl | ⟨b, o, hA, _, hc⟩
  · simp at hj
  · injection hA with hA
    subst hA
    rw [Go.Addr.add_mid]
    simp only [List.getElem?_map, Option.map_eq_some_iff] at hj
    obtain ⟨x, hx, rfl⟩ := hj
    exact hc j x hx
theorem ints_one (l : List Int) : ∀ u ∈ l.map fun x => Value.int .i64 x, u.oneCell' = true := by
  intro u hu
  obtain ⟨x, _, rfl⟩ := List.mem_map.1 hu
  rfl
/-- All cells of a slice of integers, in new memory. -/
def Kept1 (w : World) (zs : List Int) (e : Ending) (w' : World) : Prop :=
  ∃ A n c, e = .returned (.slice A n c) ∧ n = zs.length ∧ Bel w w' ∧ Ints w' A zs ∧ ∀ b o, A = some ⟨b, o, none⟩ → w.heap.size ≤ b ∧ b < w'.heap.size

set_option maxHeartbeats 400000 in
theorem keepInts_any (A : Option Addr) (n c : Nat) (zs : List Int) (w : World) (hR : Ints w A zs) (hc : zs.length = c) (hn : n ≤ c) (h0 : A = none → c = 0) (hmax : c * 8 ≤ 140737488351232) :
    Calls Try.prog 5 #[.slice A n c] w (Kept1 w zs) := by
  obtain ⟨i0, hi, hz0, hz1, hz2⟩ := info_parts info1I
  rcases A with _ | a
  · have hc0 := h0 rfl
    subst hc0
    obtain rfl : n = 0 := by omega
    go_enter Try.func5, Try.ntmps5
    go_wp2
    go_ret
    exact ⟨_, _, _, rfl, hc.symm, by (repeat (first | exact Bel.refl _ | assumption | refine Bel.drew ?_ | refine Bel.drewN ?_ _ | refine Bel.alloc ?_ _ | refine Bel.setCell ?_ (by first | omega | (simp; done) | (simp; omega) | (simp at *; omega)) _ | refine Bel.trans ?_ (by assumption))), .inl (List.eq_nil_of_length_eq_zero hc), fun b o hb => by cases hb <;> exact ⟨Nat.le_refl _, by simp⟩⟩
  · have hcells := ints_cells (hR.bel ((Bel.refl w).alloc (.cells #[] 3)))
    have Hc := Lib.hid hcells; clear hcells
    have hlen : (zs.map fun x => Value.int .i64 x).length = c * 1 := by simp [hc]
    have Hl := Lib.hid hlen; clear hlen
    have HC := Lib.hid hc; clear hc
    have h63 : 0 + c ≤ maxLen := by unfold maxLen; omega
    have hby : (0 + c) * 8 ≤ 140737488355328 := by omega
    have H63 := Lib.hid h63; clear h63
    have Hby := Lib.hid hby; clear hby
    have hcl : (c : Int) ≤ 9223372036854775807 := by omega
    clear hmax
    go_enter Try.func5, Try.ntmps5
    go_wp2_with (at_builtin; go_loud (refine wpList_append_own _ rfl _ _ 23 rfl w.heap.size 3 i0 _ 1 8 Try.underlying23 hi hz0 hz1 hz2 rfl (by decide) _ 0 [] rfl (World.ownsRow_lit w #[] 0 (Nat.le_refl _) (by decide) rfl) a c c (zs.map fun x => .int .i64 x) rfl Hl.out Hc.out (ints_one zs) H63.out Hby.out (by simp) ?_); intro v' w' hown hgr _)
    go_ret
    have hb : Bel w w' := Below.grown ((Bel.refl w).alloc _) hgr (by simp) (fun i hi => by have h : some w.heap.size = some i := hi; injection h with h; omega)
    simp only [Nat.zero_add, List.nil_append] at hown
    rw [← HC.out] at hown
    have hO : Own1 3 w.heap.size w' v' zs := hown
    obtain ⟨A', n', c', rfl, hn', hI⟩ := hO.form
    refine ⟨A', n', c', rfl, hn', hb, hI, fun b o hA => ?_⟩
    subst hA
    exact World.ownsRow.lt hO b rfl

set_option maxHeartbeats 400000 in
theorem keptInts_any (A B : Option Addr) (n c n' c' : Nat) (zs : List Int) (w : World) (hA : Ints w A zs) (hB : Ints w B zs) (hc : zs.length = n) (hc' : zs.length = c') (_hn : n' ≤ c') (h0 : B = none → c' = 0) (hmax : c' ≤ 140737488351232) :
    Calls Try.prog 8 #[.slice A n c, .slice B n' c'] w fun e w' => e = .returned (.bool true) ∧ Bel w w' := by
  obtain rfl : n = c' := by omega
  have Hn := Lib.hid hc; clear hc hc'
  have h63 : (n : Int) ≤ 9223372036854775807 := by omega
  clear hmax
  rcases B with _ | ⟨b1, b2, b3⟩
  · have hn0 := h0 rfl
    subst hn0
    obtain rfl : n' = 0 := by omega
    go_enter Try.func8, Try.ntmps8
    go_wp2
    go_loopw [5] (fun i wr => i = .int .i64 0 ∧ Bel w wr) (fun _ _ => 0)
    case atStart => exact ⟨rfl, Bel.refl _⟩
    case round =>
      obtain ⟨rfl, hb⟩ := hrel
      go_wp2
      go_ret
      exact ⟨rfl, hb⟩
  · clear h0
    go_enter Try.func8, Try.ntmps8
    go_wp2
    go_loopw [5] (fun i wr => ∃ k : Nat, k ≤ n ∧ i = .int .i64 k ∧ Bel w wr) (fun i _ => n - (intOf i).toNat)
    case atStart => exact ⟨0, Nat.zero_le _, rfl, Bel.refl _⟩
    case round =>
      obtain ⟨k, hk, rfl, hb⟩ := hrel
      by_cases hlt : k < n
      · obtain ⟨b, o, s, rfl, hbl, hg, hc1⟩ := (hA.bel hb).at_ (k := k) (by rw [Hn.out]; exact hlt)
        obtain ⟨b', o', s', hB', hbl', hg', hc1'⟩ := (hB.bel hb).at_ (k := k) (by rw [Hn.out]; exact hlt)
        rw [hg] at hg'
        injection hg' with hg'
        subst hg'
        injection hB' with hB'
        injection hB' with e1 e2 e3
        subst e1 e2 e3
        have hkn : (k : Int) < (n : Int) := by omega
        have hk0 : (0 : Int) ≤ (k : Int) := by omega
        clear hg
        go_wp2
        go_quiet (fail)
        go_wp2
        go_roundw
        case rel => exact ⟨k + 1, by omega, by go_num, by (repeat (first | exact Bel.refl _ | assumption | refine Bel.drew ?_ | refine Bel.drewN ?_ _ | refine Bel.alloc ?_ _ | refine Bel.setCell ?_ (by first | omega | (simp; done) | (simp; omega) | (simp at *; omega)) _ | refine Bel.trans ?_ (by assumption)))⟩
        case measure => simp [intOf]; omega
      · obtain rfl : k = n := by omega
        go_wp2
        go_ret
        exact ⟨rfl, hb⟩
end Go.Proofs.Ytmklpldmgmjlkaa

