/- The document's SameInts for any two lists, mark, times, isBlank. -/
import Derived.Test.YtmckoehkekkldaaW
namespace Go.Proofs.Ytmckoehkekkldaa
open Go.RowKit

set_option maxRecDepth 100000 in
set_option maxHeartbeats 1000000 in
theorem sameInts_all (A B : Option Addr) (n c m d : Nat) (l k : List Int) (w : World) (hA : Ints w A l) (hB : Ints w B k) (hn : l.length = n) (hm : k.length = m) (hmax : n ≤ maxLen) :
    Calls Try.prog 45 #[.slice A n c, .slice B m d] w fun e w' => e = .returned (.bool (decide (l = k))) ∧ Bel w w' := by
  have h63 : (n : Int) ≤ 9223372036854775807 := by unfold maxLen at hmax; omega
  by_cases hnm : n = m
  · subst hnm
    have Hn := Lib.hid hn; have Hm := Lib.hid hm
    have hne : ((n : Int) != (n : Int)) = false := by simp
    clear hn hm hmax
    go_enter Try.func45, Try.ntmps45
    go_wp2
    go_loopw [5] (fun i wr => ∃ q : Nat, q ≤ n ∧ i = .int .i64 q ∧ Bel w wr ∧ ∀ j, j < q → l[j]? = k[j]?) (fun i _ => n - (intOf i).toNat)
    case atStart => exact ⟨0, Nat.zero_le _, rfl, Bel.refl _, fun j hj => by omega⟩
    case round =>
      obtain ⟨q, hq, rfl, hb, hz⟩ := hrel
      have HZ := Lib.hid hz
      clear hz
      by_cases hlt : q < n
      · obtain ⟨b, o, s, rfl, hbl, hg, hc1⟩ := (hA.bel hb).at_ (k := q) (by rw [Hn.out]; exact hlt)
        obtain ⟨b', o', s', rfl, hbl', hg', hc1'⟩ := (hB.bel hb).at_ (k := q) (by rw [Hm.out]; exact hlt)
        have HG := Lib.hid hg; have HG' := Lib.hid hg'
        have hkn : (q : Int) < (n : Int) := by omega
        clear hg hg'
        by_cases hs : s = s'
        · subst hs
          have hsx : (s != s) = false := by simp
          go_wp2
          go_quiet (fail)
          go_wp2
          go_roundw
          case rel => exact ⟨q + 1, by omega, by go_num, by (repeat (first | exact Bel.refl _ | assumption | refine Bel.drew ?_ | refine Bel.drewN ?_ _ | refine Bel.alloc ?_ _ | refine Bel.setCell ?_ (by first | omega | (simp; done) | (simp; omega) | (simp at *; omega)) _ | refine Bel.trans ?_ (by assumption))), fun j hj => by
            rcases (by omega : j < q ∨ j = q) with h | rfl
            · exact HZ.out j h
            · rw [HG.out, HG'.out]⟩
          case measure => simp [intOf]; omega
        · have hsx : (s != s') = true := by simpa using hs
          have HF := Lib.hid (show decide (l = k) = false from decide_eq_false (fun e => by
            have h1 := HG.out
            rw [e, HG'.out] at h1
            injection h1 with h1
            exact hs h1.symm))
          clear hs
          go_wp2
          go_quiet (fail)
          go_wp2
          go_ret
          exact ⟨ret_bool HF.out.symm, by (repeat (first | exact Bel.refl _ | assumption | refine Bel.drew ?_ | refine Bel.drewN ?_ _ | refine Bel.alloc ?_ _ | refine Bel.setCell ?_ (by first | omega | (simp; done) | (simp; omega) | (simp at *; omega)) _ | refine Bel.trans ?_ (by assumption)))⟩
      · obtain rfl : q = n := by omega
        have HF := Lib.hid (show decide (l = k) = true from decide_eq_true (List.ext_getElem? fun j => by
          by_cases hj : j < q
          · exact HZ.out j hj
          · rw [List.getElem?_eq_none (by rw [Hn.out]; omega), List.getElem?_eq_none (by rw [Hm.out]; omega)]))
        go_wp2
        go_ret
        exact ⟨ret_bool HF.out.symm, by (repeat (first | exact Bel.refl _ | assumption | refine Bel.drew ?_ | refine Bel.drewN ?_ _ | refine Bel.alloc ?_ _ | refine Bel.setCell ?_ (by first | omega | (simp; done) | (simp; omega) | (simp at *; omega)) _ | refine Bel.trans ?_ (by assumption)))⟩
  · have hne : ((n : Int) != (m : Int)) = true := by simpa using (show ¬ (n : Int) = (m : Int) by omega)
    have hne2 : (n != m) = true := by simpa using hnm
    have HF := Lib.hid (show decide (l = k) = false from decide_eq_false (fun e => by rw [e] at hn; omega))
    clear hnm hn hm
    go_enter Try.func45, Try.ntmps45
    go_wp2
    go_ret
    exact ⟨ret_bool HF.out.symm, by (repeat (first | exact Bel.refl _ | assumption | refine Bel.drew ?_ | refine Bel.drewN ?_ _ | refine Bel.alloc ?_ _ | refine Bel.setCell ?_ (by first | omega | (simp; done) | (simp; omega) | (simp at *; omega)) _ | refine Bel.trans ?_ (by assumption)))⟩
set_option maxRecDepth 100000 in
set_option maxHeartbeats 1000000 in
theorem rMark_any (lo n : Nat) (A : Option Addr) (m c : Nat) (P : List Wg) (x : Int) (w : World) (hR : Plan lo w A P) (hm : P.length = m) (hG : Good n P) :
    Calls Try.prog 77 #[.slice A m c, .int .i64 x] w fun e w' => ∃ v, e = .returned v ∧ Own1 3 w.heap.size w' v (markL P x) ∧ Bel w w' := by
  obtain ⟨i0, hi, hz0, hz1, hz2⟩ := info_parts info1I
  have hm3 : m ≤ 3 := by rw [← hm]; exact hG.few
  have Hm := Lib.hid hm; have HGo := Lib.hid hG
  clear hm hG
  go_enter Try.func77, Try.ntmps77
  go_wp2
  go_loopw [5, 6, 7] (fun v i _ wr => ∃ k : Nat, k ≤ m ∧ i = .int .i64 k ∧ Bel w wr ∧ Own1 3 w.heap.size wr v (markL (P.take k) x)) (fun _ i _ _ => m - (intOf i).toNat)
  case atStart => exact ⟨0, Nat.zero_le _, rfl, Bel.refl _, by simpa [markL] using Own1.nil _ _ _⟩
  case round =>
    obtain ⟨k, hk, rfl, hb, hO⟩ := hrel
    by_cases hlt : k < m
    · obtain ⟨b, o, l, r, A1, c1n, c1, A2, c2n, c2, rfl, hbl, hg, q1, q2, hI, hl1, hx1, hJ, hl2, hx2⟩ := (hR.bel hb).at_ (k := k) (by rw [Hm.out]; exact hlt)
      have HL1 := Lib.hid hl1; have HL2 := Lib.hid hl2
      have hkn : (k : Int) < (m : Int) := by omega
      have hlen : (markL (P.take k) x).length = k := by rw [markL_length, List.length_take, Hm.out]; omega
      obtain ⟨ll, hll⟩ : ∃ ll, ll = markL (P.take k) x := ⟨_, rfl⟩
      have HS : Hid (markL (P.take (k + 1)) x = ll ++ [sd x (l, r)]) := by
        show _ = _
        rw [take_at hg, hll]
        simp [markL]
      rw [← hll] at hO hlen
      have HLEN := Lib.hid hlen
      have hbs := hb.size
      have hX1 := Lib.hid (show ll.length + 1 ≤ maxLen by unfold maxLen; omega)
      have hX2 := Lib.hid (show (ll.length + 1) * 8 ≤ 140737488355328 by omega)
      have hsd : sd x (l, r) = if hasB r x = true then -1 else if hasB l x = true then 1 else 0 := rfl
      cases h1 : hasB l x
      all_goals
        cases h2 : hasB r x
      all_goals
        rw [h1, h2] at hsd
        have HSD := Lib.hid hsd
        clear hll hl1 hl2 hg hlen hsd
        go_wp2_with fail
        refine (rHas_any A1 c1n c1 l x _ hI HL1.out hx1).mono ?_
        rintro e w' ⟨rfl, rfl⟩
        rw [h1]
        go_wp2_with fail
        refine (rHas_any A2 c2n c2 r x _ hJ HL2.out hx2).mono ?_
        rintro e w' ⟨rfl, rfl⟩
        rw [h2]
        go_wp2_with (at_builtin; go_loud (refine wpList_append_lies _ rfl (.tmp 28) (.tmp 30) 28 rfl w.heap.size 3 i0 _ 1 8 Try.underlying28 hi hz0 hz1 hz2 rfl (by decide) u5 ll.length (ll.map fun x => .int .i64 x) (by rfl) (hO.alloc _) ⟨wr.heap.size, 0, none⟩ 1 1 [.int .i64 _] (by rfl) rfl (new1 wr _ _ _ rfl) (one1 _) (by omega) hX1.out hX2.out (Nat.le_trans hbs (by simp)) _ rfl ?_); intro g3 cap3 w3 hown3 hgr3 _ hlt3)
        obtain ⟨hB3, hs3, hblk⟩ := after_app hb (Nat.le_refl _) hO hbs hgr3
        have hO3 := Own1.snoc hown3
        clear hown3 hgr3 hlt3 hblk hO
        go_roundw
        case rel => exact ⟨k + 1, by omega, by go_num, hB3, by rw [HS.out, HSD.out]; exact hO3⟩
        case measure => simp [intOf]; omega
    · obtain rfl : k = m := by omega
      have HT := Lib.hid (show P.take k = P from List.take_of_length_le (by rw [Hm.out]; omega))
      rw [HT.out] at hO
      go_wp2
      go_ret
      exact ⟨u5, rfl, hO, hb⟩
/-- A list times a number. -/
def timesL (l : List Int) (by_ : Int) : List Int := l.map fun v => by_ * v
set_option maxRecDepth 100000 in
set_option maxHeartbeats 1000000 in
theorem rTimes_any (A : Option Addr) (n c : Nat) (l : List Int) (y : Int) (w : World) (hR : Ints w A l) (hn : l.length = n) (h100 : n ≤ 100) (hl : ∀ v ∈ l, -1 ≤ y * v ∧ y * v ≤ 1) :
    Calls Try.prog 76 #[.slice A n c, .int .i64 y] w fun e w' => ∃ v, e = .returned v ∧ Own1 3 w.heap.size w' v (timesL l y) ∧ Bel w w' := by
  obtain ⟨i0, hi, hz0, hz1, hz2⟩ := info_parts info1I
  have Hn := Lib.hid hn; have HL := Lib.hid hl
  clear hn hl
  go_enter Try.func76, Try.ntmps76
  go_wp2
  go_loopw [5, 6] (fun v i wr => ∃ k : Nat, k ≤ n ∧ i = .int .i64 k ∧ Bel w wr ∧ Own1 3 w.heap.size wr v (timesL (l.take k) y)) (fun _ i _ => n - (intOf i).toNat)
  case atStart => exact ⟨0, Nat.zero_le _, rfl, Bel.refl _, by simpa [timesL] using Own1.nil _ _ _⟩
  case round =>
    obtain ⟨k, hk, rfl, hb, hO⟩ := hrel
    by_cases hlt : k < n
    · obtain ⟨b, o, x, rfl, hbl, hg, hc1⟩ := (hR.bel hb).at_ (k := k) (by rw [Hn.out]; exact hlt)
      have hkn : (k : Int) < (n : Int) := by omega
      have hlen : (timesL (l.take k) y).length = k := by rw [timesL, List.length_map, List.length_take, Hn.out]; omega
      obtain ⟨ll, hll⟩ : ∃ ll, ll = timesL (l.take k) y := ⟨_, rfl⟩
      obtain ⟨b1, b2⟩ := HL.out x (List.mem_of_getElem? hg)
      have HS : Hid (timesL (l.take (k + 1)) y = ll ++ [y * x]) := by
        show _ = _
        rw [take_at hg, hll]
        simp [timesL]
      rw [← hll] at hO hlen
      have HLEN := Lib.hid hlen
      have hbs := hb.size
      have hX1 := Lib.hid (show ll.length + 1 ≤ maxLen by unfold maxLen; omega)
      have hX2 := Lib.hid (show (ll.length + 1) * 8 ≤ 140737488355328 by omega)
      have WG : IntKind.i64.wrap (y * x) = y * x := IntWalk.i64_in _ (by omega)
      clear hll hg hlen
      go_wp2_with (at_builtin; go_loud (refine wpList_append_lies _ rfl (.tmp 13) (.tmp 20) 28 rfl w.heap.size 3 i0 _ 1 8 Try.underlying28 hi hz0 hz1 hz2 rfl (by decide) u5 ll.length (ll.map fun x => .int .i64 x) (by rfl) (hO.alloc _) ⟨wr.heap.size, 0, none⟩ 1 1 [.int .i64 (y * x)] (by rfl) rfl (new1 wr _ _ _ rfl) (one1 _) (by omega) hX1.out hX2.out (Nat.le_trans hbs (by simp)) _ rfl ?_); intro g3 cap3 w3 hown3 hgr3 _ hlt3)
      obtain ⟨hB3, hs3, hblk⟩ := after_app hb (Nat.le_refl _) hO hbs hgr3
      have hO3 := Own1.snoc hown3
      clear hown3 hgr3 hlt3 hblk hO
      go_roundw
      case rel => exact ⟨k + 1, by omega, by go_num, hB3, by rw [HS.out]; exact hO3⟩
      case measure => simp [intOf]; omega
    · obtain rfl : k = n := by omega
      have HT := Lib.hid (show l.take k = l from List.take_of_length_le (by rw [Hn.out]; omega))
      rw [HT.out] at hO
      go_wp2
      go_ret
      exact ⟨u5, rfl, hO, hb⟩
/-- Are all numbers 0? -/
def blankB (l : List Int) : Bool := l.all fun v => decide (v = 0)
set_option maxHeartbeats 400000 in
theorem rBlank_any (A : Option Addr) (n c : Nat) (l : List Int) (w : World) (hR : Ints w A l) (hn : l.length = n) (hmax : n ≤ maxLen) :
    Calls Try.prog 87 #[.slice A n c] w fun e w' => e = .returned (.bool (blankB l)) ∧ w = w' := by
  have Hn := Lib.hid hn
  have hm : (n : Int) ≤ 9223372036854775807 := by unfold maxLen at hmax; omega
  clear hn hmax
  go_enter Try.func87, Try.ntmps87
  go_wp2
  go_loop [3] (fun i => ∃ k : Nat, k ≤ n ∧ i = .int .i64 k ∧ ∀ (j : Nat) (u : Int), j < k → l[j]? = some u → u = 0) (fun i => n - (intOf i).toNat)
  case atStart => exact ⟨0, Nat.zero_le _, rfl, fun j u hj => by omega⟩
  case round =>
    obtain ⟨k, hk, rfl, hb⟩ := hrel
    have HB := Lib.hid hb
    clear hb
    by_cases hlt : k < n
    · obtain ⟨b, o, x, rfl, hbl, hg, hc1⟩ := hR.at_ (k := k) (by rw [Hn.out]; exact hlt)
      have HG := Lib.hid hg
      clear hg
      by_cases hx : x = 0
      · subst hx
        go_wp2
        go_round
        case rel => exact ⟨k + 1, by omega, by go_num, fun j u hj hu => by
          rcases (by omega : j < k ∨ j = k) with h | rfl
          · exact HB.out j u h hu
          · rw [HG.out] at hu; injection hu with hu; exact hu.symm⟩
        case measure => simp [intOf]; omega
      · have hxv : (x != 0) = true := by simpa using hx
        have HF : Hid (blankB l = false) := by
          show _ = _
          unfold blankB
          rw [List.all_eq_false]
          exact ⟨x, List.mem_of_getElem? HG.out, by simpa using hx⟩
        clear hx
        go_wp2
        go_ret
        exact ⟨ret_bool HF.out.symm, rfl⟩
    · obtain rfl : k = n := by omega
      have HF : Hid (blankB l = true) := by
        show _ = _
        unfold blankB
        rw [List.all_eq_true]
        intro u hu
        obtain ⟨j, hj⟩ := List.mem_iff_getElem?.1 hu
        simpa using HB.out j u (by rw [← Hn.out]; exact (List.getElem?_eq_some_iff.1 hj).1) hj
      go_wp2
      go_ret
      exact ⟨ret_bool HF.out.symm, rfl⟩
end Go.Proofs.Ytmckoehkekkldaa
