/- slices.Repeat of small lists. -/
import Derived.Test.YthjjpmcefiddmaaC
import Derived.Laws.CopyOwn
import Derived.Laws.MathBits
namespace Go.Proofs.Ythjjpmcefiddmaa
open Go.RowKit

attribute [local go_sem] Oper.semAt_some

theorem low_small {x : Int} (h0 : 0 ≤ x) (h1 : x ≤ 10000) : bits .and .u64 x 4294967295 = x := by
  rw [and_low32 x h0 (by omega)]; omega
theorem high_small {x : Int} (h0 : 0 ≤ x) (h1 : x ≤ 10000) : x / 4294967296 = 0 := by omega
set_option maxRecDepth 100000 in
set_option maxHeartbeats 1000000 in
theorem mul64_any (x y p : Int) (w : World) (hx : 0 ≤ x ∧ x ≤ 100) (hy : 0 ≤ y ∧ y ≤ 100) (hp : x * y = p) (hp2 : 0 ≤ p ∧ p ≤ 10000) :
    Calls Try.prog 128 #[.int .u64 x, .int .u64 y] w fun e w' => e = .returned (.tuple #[.int .u64 0, .int .u64 p]) ∧ w = w' := by
  obtain ⟨hx0, hx1⟩ := hx
  obtain ⟨hy0, hy1⟩ := hy
  obtain ⟨hp0, hp1⟩ := hp2
  have ex1 := low_small hx0 (by omega); have ex2 := high_small hx0 (by omega)
  have ey1 := low_small hy0 (by omega); have ey2 := high_small hy0 (by omega)
  have ep1 := low_small hp0 (by omega); have ep2 := high_small hp0 (by omega)
  have e0 : bits .and .u64 0 4294967295 = 0 := low_small (by omega) (by omega)
  have e00 : IntKind.u64.wrap 0 = 0 := by decide
  go_enter Try.func128, Try.ntmps128
  go_wp2
  exact bodyPost_ret (v := .tuple #[.int .u64 0, .int .u64 p]) (by simp [results, Try.results128, go_sem]) rfl ⟨rfl, rfl⟩
set_option maxRecDepth 100000 in
set_option maxHeartbeats 1000000 in
theorem mul_any (x y p : Int) (w : World) (hx : 0 ≤ x ∧ x ≤ 100) (hy : 0 ≤ y ∧ y ≤ 100) (hp : x * y = p) (hp2 : 0 ≤ p ∧ p ≤ 10000) :
    Calls Try.prog 119 #[.int .u64 x, .int .u64 y] w fun e w' => e = .returned (.tuple #[.int .u64 0, .int .u64 p]) ∧ w = w' := by
  go_enter Try.func119, Try.ntmps119
  go_wp2_with fail
  refine (mul64_any x y p _ hx hy hp hp2).mono ?_
  rintro e w1 ⟨rfl, rfl⟩
  go_wp2
  exact bodyPost_ret (v := .tuple #[.int .u64 0, .int .u64 p]) (by simp [results, Try.results119, go_sem]) rfl ⟨rfl, rfl⟩
/-- A list so many times. -/
def repL (l : List Int) (t : Nat) : List Int := (List.replicate t l).flatten
theorem repL_succ (l : List Int) (t : Nat) : repL l (t + 1) = l ++ repL l t := by simp [repL, List.replicate_succ]
theorem repL_len (l : List Int) : ∀ t, (repL l t).length = l.length * t
  | 0 => by simp [repL]
  | t + 1 => by rw [repL_succ, List.length_append, repL_len l t, Nat.mul_succ, Nat.add_comm]
theorem repL_get {l : List Int} {n : Nat} (hn : l.length = n) : ∀ (t i : Nat), i < n * t → (repL l t)[i]? = some (l.getD (i % n) 0)
  | 0, i, h => by simp at h
  | t + 1, i, h => by
    rw [repL_succ]
    have hm : n * (t + 1) = n * t + n := Nat.mul_succ n t
    by_cases hi : i < n
    · rw [List.getElem?_append_left (by omega), Nat.mod_eq_of_lt hi, List.getD_eq_getElem?_getD, List.getElem?_eq_getElem (by omega)]
      rfl
    · rw [List.getElem?_append_right (by omega), hn, repL_get hn t (i - n) (by omega), Nat.mod_eq_sub_mod (by omega : i ≥ n)]
/-- The block g holds L cells, the first m of which repeat the list. -/
def Reps (w : World) (g L m n : Nat) (l : List Int) (ty : TypeId) : Prop := ∃ cur : List Value, Hid (w.heap[g]? = some (.cells cur.toArray ty (0, 0))) ∧ cur.length = L ∧ ∀ i, i < m → cur[i]? = some (.int .i64 (l.getD (i % n) 0))
theorem Reps.cell {w : World} {g L m n : Nat} {l : List Int} {ty : TypeId} (h : Reps w g L m n l ty) {i : Nat} (hi : i < m) : w.cell? ⟨g, i, none⟩ = some (.int .i64 (l.getD (i % n) 0)) := by
  obtain ⟨cur, h1, -, h3⟩ := h
  have := h3 i hi
  unfold World.cell?
  rw [h1.out]
  simpa using this
theorem Reps.ints {w : World} {g n t : Nat} {l : List Int} {ty : TypeId} (h : Reps w g (n * t) (n * t) n l ty) (hn : l.length = n) : Ints w (some ⟨g, 0, none⟩) (repL l t) := by
  have hlt : g < w.heap.size := by
    obtain ⟨cur, h1, -, -⟩ := h
    exact (Array.getElem?_eq_some_iff.1 h1.out).1
  refine .inr ⟨g, 0, rfl, hlt, fun j v hj => ?_⟩
  have hjl : j < n * t := by have := (List.getElem?_eq_some_iff.1 hj).1; rwa [repL_len, hn] at this
  rw [repL_get hn t j hjl] at hj
  injection hj with hj
  rw [Nat.zero_add, ← hj]
  exact h.cell hjl
theorem make_list (n : Nat) (h : n ≤ 40) (W : World) : (Instr.makeSlice 22 (.int .i64 (n : Int)) (.int .i64 (n : Int))).run Try.prog W = .ok (.slice (some ⟨W.heap.size, 0, none⟩) n n) (W.alloc (.cells (madeCells #[.int .i64 0] n) 3)) :=
  run_make_row' 22 3 (.int .i64 0) 8 Try.underlying22 infoInt rfl .i64 .i64 n (by first | omega | (unfold maxLen; omega)) (by first | omega | (unfold maxLen; omega)) W
theorem infoI1 : (Try.prog.info? 3).map (·.size) = some 1 := by kernel_rfl
theorem reps_made (w : World) (L n : Nat) (l : List Int) : Reps (w.alloc (.cells (madeCells #[.int .i64 0] L) 3)) w.heap.size L 0 n l 3 :=
  ⟨(madeCells #[.int .i64 0] L).toList, show _ = _ by rw [Array.toArray_toList]; show (w.heap.push _)[w.heap.size]? = _; simp, by simp [size_madeCells], fun i hi => by omega⟩
theorem splice_get {cur cs : List Value} {off i : Nat} (hfit : off + cs.length ≤ cur.length) : (splice cur off cs)[i]? = if i < off then cur[i]? else if i < off + cs.length then cs[i - off]? else cur[i]? := by
  have hl : (cur.take off).length = off := by rw [List.length_take]; omega
  unfold splice
  by_cases h1 : i < off
  · rw [if_pos h1, List.getElem?_append_left (by omega), List.getElem?_take_of_lt h1]
  · rw [if_neg h1, List.getElem?_append_right (by omega), hl]
    by_cases h2 : i < off + cs.length
    · rw [if_pos h2, List.getElem?_append_left (by omega)]
    · rw [if_neg h2, List.getElem?_append_right (by omega), List.getElem?_drop]
      congr 1
      omega
theorem Reps.first {w w' : World} {g L n m : Nat} {l : List Int} {ty : TypeId} {cur : List Value} (hn : l.length = n) (hm : m ≤ n) (hl : cur.length = L) (hmL : m ≤ L) (hw : Hid (w'.heap[g]? = some (.cells (splice cur 0 ((l.take m).map fun x => .int .i64 x)).toArray ty (0, 0)))) (_ : w = w) : Reps w' g L m n l ty := by
  have hcl : ((l.take m).map fun x => Value.int .i64 x).length = m := by rw [List.length_map, List.length_take]; omega
  refine ⟨_, hw, by rw [length_splice _ _ _ (by omega)]; exact hl, fun i hi => ?_⟩
  rw [splice_get (by omega), if_neg (by omega), if_pos (by omega), Nat.sub_zero, List.getElem?_map, List.getElem?_take_of_lt hi, List.getElem?_eq_getElem (by omega), Nat.mod_eq_of_lt (by omega), List.getD_eq_getElem?_getD, List.getElem?_eq_getElem (by omega)]
  rfl
theorem Reps.next {w' : World} {g L n m k q : Nat} {l : List Int} {ty : TypeId} {cur : List Value} (hl : cur.length = L) (hc : ∀ i, i < m → cur[i]? = some (.int .i64 (l.getD (i % n) 0))) (hm : m = n * q) (hk : k ≤ m) (hkL : m + k ≤ L) (hw : Hid (w'.heap[g]? = some (.cells (splice cur m (cur.take k)).toArray ty (0, 0)))) : Reps w' g L (m + k) n l ty := by
  have hcl : (cur.take k).length = k := by rw [List.length_take]; omega
  refine ⟨_, hw, by rw [length_splice _ _ _ (by omega)]; exact hl, fun i hi => ?_⟩
  rw [splice_get (by omega)]
  by_cases h1 : i < m
  · rw [if_pos h1]; exact hc i h1
  · rw [if_neg h1, if_pos (by omega), List.getElem?_take_of_lt (by omega), hc (i - m) (by omega)]
    have : (i - m) % n = i % n := by
      conv => rhs; rw [show i = (i - m) + n * q from by omega, Nat.add_mul_mod_self_left]
    rw [this]
set_option maxRecDepth 100000 in
set_option maxHeartbeats 4000000 in
theorem repeat_any (A : Option Addr) (n c t : Nat) (l : List Int) (w : World) (hR : Ints w A l) (hn : l.length = n) (hn40 : n ≤ 40) (ht40 : t ≤ 40) (hL : n * t ≤ 40) :
    Calls Try.prog 102 #[.slice A n c, .int .i64 (t : Int)] w fun e w' => ∃ g, e = .returned (.slice (some ⟨g, 0, none⟩) (n * t) (n * t)) ∧ w.heap.size ≤ g ∧ Bel w w' ∧ Ints w' (some ⟨g, 0, none⟩) (repL l t) := by
  obtain ⟨L, hLe⟩ : ∃ L, L = n * t := ⟨_, rfl⟩
  have HLe := Lib.hid hLe
  have hLi : (n : Int) * (t : Int) = (L : Int) := by rw [hLe, Int.natCast_mul]
  have hL40 : L ≤ 40 := by omega
  have hni : (n : Int) ≤ 40 := by omega
  have hti : (t : Int) ≤ 40 := by omega
  have hLi40 : (L : Int) ≤ 40 := by omega
  rw [← hLe]
  have Hn := Lib.hid hn
  have hmk := make_list L (by omega)
  have hR1 := hR.bel ((Bel.refl w).alloc (.cells (madeCells #[.int .i64 0] L) 3))
  have hr0 := reps_made w L n l
  clear hL hLe hn
  go_enter Try.func102, Try.ntmps102
  go_wp2_with fail
  refine (mul_any (n : Int) (t : Int) (L : Int) _ ⟨by omega, by omega⟩ ⟨by omega, by omega⟩ hLi ⟨by omega, by omega⟩).mono ?_
  rintro e w1 ⟨rfl, hw⟩
  subst hw
  obtain ⟨m0, hm0⟩ : ∃ m0, m0 = Nat.min n L := ⟨_, rfl⟩
  have hm0n : m0 ≤ n := by rw [hm0]; exact Nat.min_le_left _ _
  have hm0L : m0 ≤ L := by rw [hm0]; exact Nat.min_le_right _ _
  obtain ⟨cs, hcs⟩ : ∃ cs, cs = (l.take m0).map fun x => Value.int .i64 x := ⟨_, rfl⟩
  have hcl : cs.length = m0 := by rw [hcs, List.length_map, List.length_take, Hn.out]; omega
  have hM0 : Hid (m0 = L ∨ (0 < m0 ∧ ∃ q, m0 = n * q)) := by
    show _ ∨ _
    rcases Nat.eq_zero_or_pos t with h | h
    · left; have := HLe.out; rw [h] at this; omega
    · rcases Nat.eq_zero_or_pos n with h2 | h2
      · left; have := HLe.out; rw [h2, Nat.zero_mul] at this; omega
      · right
        have h3 : n * 1 ≤ n * t := Nat.mul_le_mul_left n h
        have h4 := HLe.out
        have h5 : m0 = n := by rw [hm0]; exact Nat.min_eq_left (by omega)
        exact ⟨by omega, 1, by omega⟩
  obtain ⟨cur0, hc1, hc2, -⟩ := hr0
  have HR1 := Lib.hid (hR1.take m0)
  have HPOS : Hid (0 < cs.length → ∃ ad, A = some ad ∧ ∀ j v, cs[j]? = some v → (w.alloc (.cells (madeCells #[.int .i64 0] L) 3)).cell? (ad.add j) = some v) := fun hp => by
    obtain ⟨b, o, hA, _, hj⟩ := HR1.out.news (by intro e; rw [hcs, e] at hp; simp at hp)
    exact ⟨_, hA, by rw [hcs]; exact hj⟩
  have HONE : Hid (∀ v ∈ cs, v.oneCell' = true) := by rw [hcs]; exact one_map _
  have HCN := Lib.hid (show cs.length = Nat.min n L by rw [hcl, hm0])
  have HCS := Lib.hid hcs
  have HM := Lib.hid hm0
  clear hcs hm0
  go_wp2_with (refine wpList_copy_splice (o := ⟨some 33, _, _, _, _, _⟩) rfl (.tmp 31) (.tmp 32) 22 22 rfl 3 Try.underlying22 infoI1 (some ⟨w.heap.size, 0, none⟩) A L L n c (by simp [go_sem]) (by simp [go_sem]) w.heap.size 0 cur0 3 hc1.out cs HCN.out (fun hp => ⟨rfl, HPOS.out hp⟩) (by omega) HONE.out w.heap.size w ((Bel.refl w).alloc _) (Nat.le_refl _) ?_; intro w4 hw4 hb4)
  have hrep4 : Reps w4 w.heap.size L m0 n l 3 := Reps.first Hn.out hm0n hc2 hm0L (by rw [← HCS.out]; exact hw4) (rfl : w = w)
  clear hc1 hc2 hw4 hmk hcl
  go_loopw [8] (fun mv wr => ∃ m : Nat, mv = .int .i64 (m : Int) ∧ m ≤ L ∧ (m = L ∨ (0 < m ∧ ∃ q, m = n * q)) ∧ Bel w wr ∧ Reps wr w.heap.size L m n l 3) (fun mv _ => L - (intOf mv).toNat)
  case atStart => exact ⟨m0, rfl, hm0L, hM0.out, hb4, hrep4⟩
  case round =>
    clear hrep4
    obtain ⟨m, rfl, hmL, hq, hb, hrep⟩ := hrel
    by_cases hlt : m < L
    · obtain ⟨hmpos, q, hmq⟩ := hq.resolve_left (by omega)
      have HQ := Lib.hid hmq
      obtain ⟨cur, h1, h2, h3⟩ := hrep
      have HG : Hid (wr.drew.heap[w.heap.size]? = some (.cells cur.toArray 3 (0, 0))) := h1
      have H3 := Lib.hid h3
      obtain ⟨k, hk⟩ : ∃ k, k = Nat.min m (L - m) := ⟨_, rfl⟩
      have hkm : k ≤ m := by rw [hk]; exact Nat.min_le_left _ _
      have hkL : k ≤ L - m := by rw [hk]; exact Nat.min_le_right _ _
      have HNXT : Hid (m + k = L ∨ (0 < m + k ∧ ∃ q, m + k = n * q)) := by
        show _ ∨ _
        by_cases h5 : m ≤ L - m
        · refine .inr ⟨by omega, 2 * q, ?_⟩
          rw [hk, show Nat.min m (L - m) = m from Nat.min_eq_left h5, hmq, Nat.mul_left_comm, Nat.two_mul]
        · left
          rw [hk, show Nat.min m (L - m) = L - m from Nat.min_eq_right (by omega)]
          omega
      have hkpos : 0 < k := by rw [hk]; exact Nat.lt_min.2 ⟨hmpos, by omega⟩
      obtain ⟨cs, hcs⟩ : ∃ cs, cs = cur.take k := ⟨_, rfl⟩
      have hcl : cs.length = k := by rw [hcs, List.length_take]; omega
      have HCN := Lib.hid (show cs.length = Nat.min m (L - m) by rw [hcl, hk])
      have HCELL : Hid (∀ j v, cs[j]? = some v → wr.drew.cell? ((⟨w.heap.size, 0, none⟩ : Addr).add j) = some v) := by
        intro j v hj
        have hjk : j < k := by have := (List.getElem?_eq_some_iff.1 hj).1; omega
        rw [hcs, List.getElem?_take_of_lt hjk, h3 j (by omega)] at hj
        rw [Go.Addr.add_mid, Nat.zero_add, ← hj]
        exact Reps.cell (w := wr.drew) ⟨cur, HG, h2, h3⟩ (by omega)
      have HONE : Hid (∀ v ∈ cs, v.oneCell' = true) := by
        intro v hv
        obtain ⟨j, hj⟩ := List.mem_iff_getElem?.1 hv
        have hjk : j < k := by have := (List.getElem?_eq_some_iff.1 hj).1; omega
        rw [hcs, List.getElem?_take_of_lt hjk, h3 j (by omega)] at hj
        injection hj with hj
        rw [← hj]
        rfl
      have HCS := Lib.hid hcs
      have hmi : (m : Int) ≤ (L : Int) := by omega
      have hmi2 : (m : Int) < (L : Int) := by omega
      have hLm : ¬ L = m := by omega
      have hm0 : (0 : Int) ≤ (m : Int) := by omega
      clear hcs hk hmq h3 hq
      go_wp2
      go_region_law (refine step_copy_splice (o := ⟨some 45, _, _, _, _, _⟩) rfl (.tmp 41) (.tmp 44) 22 22 rfl 3 Try.underlying22 infoI1 (some ⟨w.heap.size, m, none⟩) (some ⟨w.heap.size, 0, none⟩) (L - m) (L - m) m L (by simp [go_sem]) (by simp [go_sem]) w.heap.size m cur 3 HG.out cs HCN.out (fun _ => ⟨rfl, _, rfl, HCELL.out⟩) (by omega) HONE.out w.heap.size w (by (repeat (first | exact Bel.refl _ | assumption | refine Bel.drew ?_ | refine Bel.drewN ?_ _ | refine Bel.alloc ?_ _ | refine Bel.setCell ?_ (by first | omega | (simp; done) | (simp; omega) | (simp at *; omega)) _ | refine Bel.trans ?_ (by assumption)))) (Nat.le_refl _) ?_; intro w5 hw5 hb5)
      have hrep5 : Reps w5 w.heap.size L (m + k) n l 3 := Reps.next (q := q) h2 H3.out HQ.out hkm (by omega) (by rw [← HCS.out]; exact hw5)
      have hmk2 : (m : Int) + (k : Int) ≤ 40 := by omega
      have hwr : IntKind.i64.wrap ((m : Int) + (k : Int)) = (m : Int) + (k : Int) := IntWalk.i64_in _ (by omega)
      go_simp
      go_wp2
      go_roundw
      case rel => exact ⟨m + k, by go_num, by omega, HNXT.out, hb5, hrep5⟩
      case measure => simp [intOf]; omega
    · obtain rfl : m = L := by omega
      have hI := Reps.ints (t := t) (by rw [← HLe.out]; exact hrep) Hn.out
      go_wp2
      go_ret
      exact ⟨_, rfl, Nat.le_refl _, hb, hI⟩
end Go.Proofs.Ythjjpmcefiddmaa
