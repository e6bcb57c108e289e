/- feud: inUse, timesLess, valueAt. -/
import Derived.Test.YtcndmfkbfimllaaI
import Derived.IntWalk
namespace Go.Proofs.Ytcndmfkbfimllaa
open Go.RowKit Go.Maps

/-- Natural numbers as integers. -/
def upN (l : List Nat) : List Int := l.map fun (n : Nat) => (n : Int)
theorem upN_length (l : List Nat) : (upN l).length = l.length := by simp [upN]
theorem upN_at {l : List Nat} {k : Nat} {v : Int} (h : (upN l)[k]? = some v) : ∃ x : Nat, l[k]? = some x ∧ v = (x : Int) := by
  unfold upN at h
  rw [List.getElem?_map, Option.map_eq_some_iff] at h
  obtain ⟨x, hx, rfl⟩ := h
  exact ⟨x, hx, rfl⟩
/-- How many shelves a list uses. -/
def useN (l : List Nat) : Nat := l.foldl (fun m x => max m (x + 1)) 0
theorem useN_snoc (l : List Nat) (x : Nat) : useN (l ++ [x]) = max (useN l) (x + 1) := by simp [useN]
theorem useN_bd {l : List Nat} {B : Nat} (h : ∀ x ∈ l, x < B) : useN l ≤ B := by
  revert h
  refine snocRec (P := fun l => (∀ x ∈ l, x < B) → useN l ≤ B) ?_ ?_ l
  · intro _; exact Nat.zero_le _
  · intro l x ih h
    have := ih fun y hy => h y (by simp [hy])
    have := h x (by simp)
    rw [useN_snoc]; omega

set_option maxHeartbeats 400000 in
theorem inUse_any (A : Option Addr) (n c : Nat) (l : List Nat) (w : World) (hR : Ints w A (upN l)) (hn : l.length = n) (hmax : n ≤ 100) (hl : ∀ x ∈ l, x < 1000) :
    Calls Try.prog 95 #[.slice A n c] w fun e w' => e = .returned (.int .i64 ((useN l : Nat) : Int)) ∧ w = w' := by
  have Hn := Lib.hid hn
  have HL := Lib.hid hl
  clear hn hl
  go_enter Try.func95, Try.ntmps95
  go_wp2
  go_loop [3, 8] (fun s i => ∃ k : Nat, k ≤ n ∧ i = .int .i64 k ∧ s = .int .i64 ((useN (l.take k) : Nat) : Int)) (fun _ i => n - (intOf i).toNat)
  case atStart => exact ⟨0, Nat.zero_le _, rfl, rfl⟩
  case round =>
    obtain ⟨k, hk, rfl, rfl⟩ := hrel
    by_cases hlt : k < n
    · obtain ⟨b, o, v, rfl, hbl, hg, hc1⟩ := hR.at_ (k := k) (by rw [upN_length, Hn.out]; exact hlt)
      obtain ⟨x, hx, rfl⟩ := upN_at hg
      have hxb := HL.out x (List.mem_of_getElem? hx)
      have hub := useN_bd (l := l.take k) (B := 1000) fun y hy => HL.out y (List.mem_of_mem_take hy)
      have HT := Lib.hid (show useN (l.take (k + 1)) = max (useN (l.take k)) (x + 1) by rw [take_at hx, useN_snoc])
      obtain ⟨u, hu⟩ : ∃ u, u = useN (l.take k) := ⟨_, rfl⟩
      rw [← hu] at hub ⊢
      have HU := Lib.hid hu
      have hkn : (k : Int) < (n : Int) := by omega
      have hxi : (x : Int) ≤ 1000 := by omega
      have hui : (u : Int) ≤ 1000 := by omega
      clear hg hx hu
      by_cases hc : u < x + 1
      · have hci : (u : Int) < (x : Int) + 1 := by omega
        have HQ := Lib.hid (show useN (l.take (k + 1)) = x + 1 by rw [HT.out, ← HU.out]; omega)
        clear hc
        go_wp2
        go_round
        case rel => exact ⟨k + 1, by omega, by go_num, by rw [HQ.out]; go_num⟩
        case measure => simp [intOf]; omega
      · have hci : (x : Int) + 1 ≤ (u : Int) := by omega
        have HQ := Lib.hid (show useN (l.take (k + 1)) = u by rw [HT.out, ← HU.out]; omega)
        clear hc
        go_wp2
        go_round
        case rel => exact ⟨k + 1, by omega, by go_num, by rw [HQ.out]⟩
        case measure => simp [intOf]; omega
    · obtain rfl : k = n := by omega
      have HT := Lib.hid (show l.take k = l from List.take_of_length_le (by rw [Hn.out]; omega))
      rw [HT.out]
      go_wp2
      go_ret
      exact ⟨rfl, rfl⟩

/-- The product with (x - n), term by term: what stands behind k terms. -/
def tl (ns : List Int) (n : Int) (k j : Nat) : Int := (if 1 ≤ j ∧ j ≤ k then ns.getD (j - 1) 0 else 0) - (if j < k then n * ns.getD j 0 else 0)
theorem tl_zero (ns : List Int) (n : Int) (j : Nat) : tl ns n 0 j = 0 := by unfold tl; rw [if_neg (by omega), if_neg (by omega)]; rfl
theorem tl_at (ns : List Int) (n : Int) (k : Nat) : tl ns n k k = if 1 ≤ k then ns.getD (k - 1) 0 else 0 := by
  unfold tl
  rw [if_neg (Nat.lt_irrefl k)]
  split <;> split <;> first | rfl | omega | simp
theorem tl_next (ns : List Int) (n : Int) (k : Nat) : tl ns n k (k + 1) = 0 := by unfold tl; rw [if_neg (by omega), if_neg (by omega)]; rfl
theorem tl_step {ns : List Int} {n t : Int} {k : Nat} (ht : ns[k]? = some t) (j : Nat) : tl ns n (k + 1) j = if j = k + 1 then 0 + t else if j = k then tl ns n k k - n * t else tl ns n k j := by
  have hg : ns.getD k 0 = t := by rw [List.getD_eq_getElem?_getD, ht]; rfl
  by_cases h1 : j = k + 1
  · subst h1
    rw [if_pos rfl]
    unfold tl
    rw [if_pos (by omega), if_neg (by omega), Nat.add_sub_cancel, hg]
    omega
  · rw [if_neg h1]
    by_cases h2 : j = k
    · subst h2
      rw [if_pos rfl, tl_at]
      unfold tl
      rw [hg, if_pos (show j < j + 1 by omega)]
      by_cases h3 : 1 ≤ j
      · rw [if_pos ⟨h3, by omega⟩, if_pos h3]
      · rw [if_neg (by omega), if_neg h3]
    · rw [if_neg h2]
      unfold tl
      by_cases h3 : j < k
      · rw [if_pos h3, if_pos (show j < k + 1 by omega)]
        by_cases h4 : 1 ≤ j
        · rw [if_pos ⟨h4, by omega⟩, if_pos ⟨h4, by omega⟩]
        · rw [if_neg (by omega), if_neg (by omega)]
      · rw [if_neg h3, if_neg (by omega), if_neg (by omega), if_neg (by omega)]
/-- A new row of so many cells. -/
def Made (w : World) (m : Nat) (f : Nat → Int) (e : Ending) (w' : World) : Prop :=
  ∃ b, e = .returned (.slice (some ⟨b, 0, none⟩) m m) ∧ w.heap.size ≤ b ∧ Bel w w' ∧ Row w' b m m f
def big : Int := 100000000000
theorem mul_big {n t : Int} (h0 : 0 ≤ n) (h7 : n ≤ 7) (h1 : -big ≤ t) (h2 : t ≤ big) : -(7 * big) ≤ n * t ∧ n * t ≤ 7 * big := by
  unfold big at *
  have a1 : n * t ≤ n * 100000000000 := Int.mul_le_mul_of_nonneg_left h2 h0
  have a2 : n * (-100000000000) ≤ n * t := Int.mul_le_mul_of_nonneg_left h1 h0
  omega

set_option maxRecDepth 100000 in
set_option maxHeartbeats 1000000 in
theorem timesLess_any (A : Option Addr) (m c : Nat) (ns : List Int) (n : Int) (w : World) (hR : Ints w A ns) (hm : ns.length = m) (h8 : m ≤ 8) (n0 : 0 ≤ n) (n7 : n ≤ 7) (hB : ∀ t ∈ ns, -big ≤ t ∧ t ≤ big) :
    Calls Try.prog 121 #[.slice A m c, .int .i64 n] w (Made w (m + 1) (tl ns n m)) := by
  have Hm := Lib.hid hm
  have HB := Lib.hid hB
  have hmi : (m : Int) ≤ 8 := by omega
  have hmk : ∀ W : World, (Instr.makeSlice 25 (.int .i64 ((m : Int) + 1)) (.int .i64 ((m : Int) + 1))).run Try.prog W = .ok (.slice (some ⟨W.heap.size, 0, none⟩) (m + 1) (m + 1)) (W.alloc (.cells (madeCells #[.int .i64 0] (m + 1)) 3)) := by
    have := fun W : World => run_make_row' (P := Try.prog) 25 3 (.int .i64 0) 8 Try.underlying25 infoInt rfl .i64 .i64 (m + 1) (by first | omega | (unfold maxLen; omega)) (by first | omega | (unfold maxLen; omega)) W
    simpa using this
  have hrow : Row (w.alloc (.cells (madeCells #[.int .i64 0] (m + 1)) 3)) w.heap.size (m + 1) (m + 1) (tl ns n 0) := Row.whole _ _ _ _ _ fun i hi => by rw [tl_zero]; exact made_int (m + 1) i hi
  have hb0 : Bel w (w.alloc (.cells (madeCells #[.int .i64 0] (m + 1)) 3)) := by (repeat (first | exact Bel.refl _ | assumption | refine Bel.drew ?_ | refine Bel.drewN ?_ _ | refine Bel.alloc ?_ _ | refine Bel.setCell ?_ (by first | omega | (simp; done) | (simp; omega) | (simp at *; omega)) _ | refine Bel.trans ?_ (by assumption)))
  generalize madeCells #[.int .i64 0] (m + 1) = C at *
  clear hm hB
  go_enter Try.func121, Try.ntmps121
  go_wp2
  go_loopw [14] (fun i wr => ∃ k : Nat, k ≤ m ∧ i = .int .i64 k ∧ Bel w wr ∧ Row wr w.heap.size (m + 1) (m + 1) (tl ns n k)) (fun i _ => m - (intOf i).toNat)
  case atStart => exact ⟨0, Nat.zero_le _, rfl, hb0, hrow⟩
  case round =>
    clear hrow hb0 hmk
    obtain ⟨k, hk, rfl, hb, hr⟩ := hrel
    by_cases hlt : k < m
    · obtain ⟨b, o, t, rfl, hbl, hg, hc1⟩ := (hR.bel hb).at_ (k := k) (by rw [Hm.out]; exact hlt)
      have hkm : (k : Int) < (m : Int) := by omega
      obtain ⟨t1, t2⟩ := HB.out t (List.mem_of_getElem? hg)
      obtain ⟨p1, p2⟩ := mul_big n0 n7 t1 t2
      obtain ⟨v, hv⟩ : ∃ v, v = tl ns n k k := ⟨_, rfl⟩
      have hvb : -big ≤ v ∧ v ≤ big := by
        rw [hv, tl_at]
        split
        · rw [List.getD_eq_getElem?_getD]
          cases h : ns[k - 1]? with
          | none => simp [big]
          | some u => exact HB.out u (List.mem_of_getElem? h)
        · simp [big]
      obtain ⟨v1, v2⟩ := hvb
      have HS := Lib.hid (fun j => tl_step (n := n) hg j)
      unfold big at t1 t2 p1 p2 v1 v2
      have hc2 := hr.cells k (by omega)
      have hc3 := hr.cells (k + 1) (by omega)
      rw [← hv] at hc2
      rw [tl_next] at hc3
      have hfz := hr.fz k
      have hfz1 := hr.fz (k + 1)
      have hlt1 := hr.lt
      have HV := Lib.hid hv
      have hr2 := (hr.put (i := k) (by omega) (v - n * t)).put (i := k + 1) (by omega) (0 + t)
      have HR2 := Lib.hid (hr2.congr (f' := tl ns n (k + 1)) (fun j _ => by
        rw [HS.out j]
        by_cases h1 : j = k + 1
        · rw [if_pos h1, if_pos h1]
        · rw [if_neg h1, if_neg h1, HV.out]))
      have hb2 := Lib.hid (show Bel w ((wr.setCell ⟨w.heap.size, k, none⟩ (.int .i64 (v - n * t))).setCell ⟨w.heap.size, k + 1, none⟩ (.int .i64 (0 + t))) by (repeat (first | exact Bel.refl _ | assumption | refine Bel.drew ?_ | refine Bel.drewN ?_ _ | refine Bel.alloc ?_ _ | refine Bel.setCell ?_ (by first | omega | (simp; done) | (simp; omega) | (simp at *; omega)) _ | refine Bel.trans ?_ (by assumption))))
      rw [show (0 : Int) + t = t from Int.zero_add t] at HR2 hb2
      clear hg hv hr2 hr
      go_wp2
      go_roundw
      case rel => exact ⟨k + 1, by omega, by go_num, hb2.out, HR2.out⟩
      case measure => simp [intOf]; omega
    · obtain rfl : k = m := by omega
      go_wp2
      go_ret
      exact ⟨w.heap.size, rfl, Nat.le_refl _, hb, hr⟩
end Go.Proofs.Ytcndmfkbfimllaa
