/- slices.Backward, its iterator; before; the program's Unfold. -/
import Derived.Test.YthjjpmcefiddmaaI
import Derived.RangeFuncNested
import Derived.RangeFuncBound
import Derived.RangeFuncCalls
import Derived.RangeFuncLeaves
import Derived.Shelf.Abstract
import Derived.Shelf.RegionOpen
import Derived.WalkKit
import Derived.OwnWalkIn
import Derived.TacticsInMore
import Derived.LoopNIn
import Derived.LoopIn
namespace Go.Proofs.Ythjjpmcefiddmaa
open Go.RowKit

attribute [local go_sem] Oper.semAt_some

/-- What lies in the blocks of S is as it was. -/
def Kept (S : Nat → Prop) (w w' : World) : Prop := ∀ k, S k → w'.heap[k]? = w.heap[k]?
theorem Kept.refl (S : Nat → Prop) (w : World) : Kept S w w := fun _ _ => rfl
theorem Kept.trans {S : Nat → Prop} {a b c : World} (h : Kept S a b) (k : Kept S b c) : Kept S a c := fun i hi => (k i hi).trans (h i hi)
theorem Kept.cell {S : Nat → Prop} {w w' : World} (h : Kept S w w') {b o : Nat} (hb : S b) : w'.cell? ⟨b, o, none⟩ = w.cell? ⟨b, o, none⟩ := World.cell?_of_block (w := w) (a := ⟨b, o, none⟩) (h b hb)
theorem Kept.put {S : Nat → Prop} {w0 : World} (hS : ∀ k, S k → k < w0.heap.size) (W : World) (l : Nat) (o o' : Obj) (hl : w0.heap.size ≤ l) (_ : W.heap[l]? = some o) (_ : o.isCells = false) (_ : o.isWalk = false) : Kept S W (W.putObj l o') := fun k hk => World.putObj_heap_other (by have := hS k hk; omega)
theorem Kept.below {S : Nat → Prop} {n₀ : Nat} {w w' : World} (h : Below n₀ w w') (hS : ∀ k, S k → k < n₀) : Kept S w w' := fun k hk => h.block k (hS k hk)
/-- The slice at A reads as ns, in a block of S. -/
def IntsS (S : Nat → Prop) (W : World) (A : Option Addr) (ns : List Int) : Prop := ns = [] ∨ ∃ b o, A = some ⟨b, o, none⟩ ∧ S b ∧ ∀ (j : Nat) (v : Int), ns[j]? = some v → W.cell? ⟨b, o + j, none⟩ = some (.int .i64 v)
theorem IntsS.kept {S : Nat → Prop} {w w' : World} {A : Option Addr} {ns : List Int} (h : IntsS S w A ns) (hb : Kept S w w') : IntsS S w' A ns := by
  rcases h with h | ⟨b, o, hA, hlt, hc⟩
  · exact .inl h
  · exact .inr ⟨b, o, hA, hlt, fun j v hj => (hb.cell hlt).trans (hc j v hj)⟩
theorem Ints.toS {w : World} {A : Option Addr} {ns : List Int} (h : Ints w A ns) : IntsS (· < w.heap.size) w A ns := by
  rcases h with h | ⟨b, o, rfl, hl, hc⟩
  · exact .inl h
  · exact .inr ⟨b, o, rfl, hl, hc⟩
/-- A word's folds with their places. -/
def prs : Nat → List Int → List (Nat × Bool)
  | _, [] => []
  | i, v :: r => (i, decide (v = 1)) :: prs (i + 1) r
theorem prs_len : ∀ (i : Nat) (ws : List Int), (prs i ws).length = ws.length
  | _, [] => rfl
  | i, v :: r => by simp [prs, prs_len (i + 1) r]
theorem prs_get : ∀ (i : Nat) (ws : List Int) (k : Nat) (v : Int), ws[k]? = some v → (prs i ws)[k]? = some (i + k, decide (v = 1))
  | _, [], _, _, h => by simp at h
  | i, u :: r, 0, v, h => by simp at h; subst h; simp [prs]
  | i, u :: r, k + 1, v, h => by
    simp at h
    have := prs_get (i + 1) r k v h
    simp [prs, this]
    omega
def kd (b : Bool) : Nat := if b then 1 else 0
theorem kd_le (b : Bool) : kd b ≤ 1 := by cases b <;> decide
theorem kd_of {v : Int} (h : v = 0 ∨ v = 1) : ((kd (decide (v = 1)) : Nat) : Int) = v := by rcases h with rfl | rfl <;> rfl
/-- Where a place goes by the folds that were undone last to first. -/
def goL (h : Nat) (l : List (Nat × Bool)) (q : Nat) : Nat := l.foldr (fun p q => goN h (kd p.2) q) q
theorem goL_snoc (h : Nat) (l : List (Nat × Bool)) (p : Nat × Bool) (q : Nat) : goL h (l ++ [p]) q = goL h l (goN h (kd p.2) q) := by simp [goL]
theorem goL_all (h : Nat) : ∀ (i : Nat) (ws : List Int) (q : Nat), WordOK ws → goL h (prs i ws).reverse q = goW h ws q
  | _, [], _, _ => rfl
  | i, v :: r, q, hw => by
    have ih := goL_all h (i + 1) r (goN h v.toNat q) (fun u hu => hw u (List.mem_cons_of_mem _ hu))
    rw [goW_cons, ← ih]
    have hv := hw v List.mem_cons_self
    simp only [prs, List.reverse_cons]
    rw [goL_snoc]
    rcases hv with rfl | rfl <;> rfl
/-- What the iterator hands on. -/
def enc2 (p : Nat × Bool) : Array Value := #[.int .i64 (p.1 : Int), .int .i64 ((kd p.2 : Nat) : Int)]

set_option maxHeartbeats 1000000 in
theorem backward_in (A : Option Addr) (n c : Nat) (w : World) :
    Calls Try.prog 106 #[.slice A n c] w fun e w' => e = .returned (.func (.func 120) #[] #[.pointer (some ⟨w.heap.size, 0, none⟩)]) ∧ w' = w.alloc (.cells #[.slice A n c] 22) := by
  refine (callsIn_wide (n := 1)).1 ?_
  refine callsIn_of_wp Try.func106 rfl trivial ?_ rfl
  simp only [Try.ntmps106, List.size_toArray, List.length_cons, List.length_nil, Nat.reduceAdd, Nat.reduceSub, Array.replicate_succ, Array.replicate_zero, List.push_toArray, List.append_toArray, List.nil_append, List.cons_append]
  gi_wp2
  go_ret
  exact ⟨rfl, rfl⟩
set_option maxRecDepth 100000 in
set_option maxHeartbeats 2000000 in
theorem backward1_in (N l Bt : Nat) (S : Nat → Prop) (A : Option Addr) (n c : Nat) (ns : List Int) (hn : ns.length = n) (hm : n ≤ 100) (hw : WordOK ns) (hSB : S Bt) (J Jx : List (Nat × Bool) → World → Prop)
    (hY : ∀ pre x W, J pre W → pre.length < n → YieldAt Fence.wide N Try.prog l (enc2 x) W fun e W' =>
      (e = .returned (.bool true) ∧ J (pre ++ [x]) W' ∧ Kept S W W') ∨ (e = .returned (.bool false) ∧ Jx (pre ++ [x]) W'))
    (W : World) (hBt : W.cell? ⟨Bt, 0, none⟩ = some (.slice A n c)) (hI : IntsS S W A ns) (h0 : J [] W) :
    CallsIn Fence.wide (N + 1) Try.prog 120 #[.func (.yield l) #[] #[], .pointer (some ⟨Bt, 0, none⟩)] W fun e W' => (∃ v, e = .returned v) ∧
      ((∃ ys, ys = (prs 0 ns).reverse ∧ J ys W') ∨ (∃ pre, pre <+: (prs 0 ns).reverse ∧ Jx pre W')) := by
  have HLEN := Lib.hid (show (prs 0 ns).reverse.length = n by rw [List.length_reverse, prs_len, hn])
  have Hn := Lib.hid hn
  have HW := Lib.hid hw
  clear hn hw
  refine callsIn_of_wp Try.func120 rfl trivial ?_ rfl
  simp only [Try.ntmps120, List.size_toArray, List.length_cons, List.length_nil, Nat.reduceAdd, Nat.reduceSub, Array.replicate_succ, Array.replicate_zero, List.push_toArray, List.append_toArray, List.nil_append, List.cons_append]
  gi_wp2
  gi_loopw [3] (fun i wr => ∃ k : Nat, k ≤ n ∧ i = .int .i64 ((n : Int) - 1 - (k : Int)) ∧ J ((prs 0 ns).reverse.take k) wr ∧ Kept S W wr)
    (fun i _ => (intOf i + 1).toNat)
  case atStart => exact ⟨0, Nat.zero_le _, by go_num, h0, Kept.refl _ _⟩
  case round =>
    obtain ⟨k, hk, rfl, hJs, hnx⟩ := hrel
    have hIw := hI.kept hnx
    have hBw := (hnx.cell (o := 0) hSB).trans hBt
    by_cases hlt : k < n
    · obtain ⟨m, hmk⟩ : ∃ m : Nat, m + k + 1 = n := ⟨n - 1 - k, by omega⟩
      have hmi : (n : Int) - 1 - (k : Int) = (m : Int) := by omega
      have hki : (m : Int) < (n : Int) := by omega
      have hk0 : (0 : Int) ≤ (m : Int) := by omega
      rw [hmi]
      have HMI := Lib.hid hmi
      rcases hIw with h | ⟨b, o, rfl, hSb, hc⟩
      · have := Hn.out
        rw [h] at this
        simp at this
        omega
      · have hg : ns[m]? = some (ns[m]'(by have := Hn.out; omega)) := List.getElem?_eq_getElem _
        obtain ⟨x, hx⟩ : ∃ x, x = ns[m]'(by have := Hn.out; omega) := ⟨_, rfl⟩
        rw [← hx] at hg
        have hxx := HW.out x (List.mem_of_getElem? hg)
        have hcx := hc m x hg
        rw [← kd_of hxx] at hcx
        have hp := prs_get 0 ns m x hg
        rw [Nat.zero_add] at hp
        have hrev : (prs 0 ns).reverse[k]? = some (m, decide (x = 1)) := by
          rw [List.getElem?_reverse (by rw [prs_len, Hn.out]; omega), prs_len, Hn.out, show n - 1 - k = m from by omega]
          exact hp
        obtain ⟨bb, hbb⟩ : ∃ bb, bb = decide (x = 1) := ⟨_, rfl⟩
        rw [← hbb] at hcx hrev
        obtain ⟨fn, tmps, assign, body, hy, hR⟩ := hY _ (m, bb) wr hJs (by rw [List.length_take, HLEN.out]; omega)
        try dsimp only [enc2] at hy
        have HT := Lib.hid (take_at hrev)
        obtain ⟨kv, hkv⟩ : ∃ kv : Int, kv = ((kd bb : Nat) : Int) := ⟨_, rfl⟩
        rw [← hkv] at hcx hy
        clear hx hg hc hxx hp hrev hbb hkv hmi
        gi_wp2
        refine hR.mono ?_
        rintro e W3 (⟨rfl, hJ3, hk3⟩ | ⟨rfl, hJx3⟩)
        · gi_wp2
          go_roundw
          case rel => exact ⟨k + 1, by omega, by go_num, by rw [HT.out]; exact hJ3, hnx.trans hk3⟩
          case measure => first | (simp [intOf]; done) | (simp [intOf]; omega)
        · gi_wp2
          refine bodyPost_ret (results_none rfl _ _ _) rfl ?_
          exact ⟨⟨_, rfl⟩, .inr ⟨_, by rw [← HT.out]; exact List.take_prefix _ _, hJx3⟩⟩
    · obtain rfl : k = n := by omega
      have hmi : (k : Int) - 1 - (k : Int) = -1 := by omega
      rw [hmi]
      gi_wp2
      go_end0
      exact ⟨⟨_, rfl⟩, .inl ⟨_, List.take_of_length_le (by rw [HLEN.out]; omega), hJs⟩⟩
theorem backward_stops (N Bt : Nat) (S : Nat → Prop) (A : Option Addr) (n c : Nat) (ns : List Int) (w : World) (hn : ns.length = n) (hm : n ≤ 100) (hw : WordOK ns) (hBt0 : S Bt) (hS : ∀ k, S k → k < w.heap.size)
    (hBt : w.cell? ⟨Bt, 0, none⟩ = some (.slice A n c)) (hI : IntsS S w A ns) :
    SeqStopsK Fence.wide (N + 1) Try.prog 120 #[.pointer (some ⟨Bt, 0, none⟩)] enc2 (Kept S) (fun ys => ys = (prs 0 ns).reverse) (fun pre => pre <+: (prs 0 ns).reverse) n w := fun l J Jx W hW _ _ hY h0 =>
  backward1_in N l Bt S A n c ns hn hm hw hBt0 J Jx hY W ((Kept.below hW hS).cell hBt0 |>.trans hBt) (hI.kept (Kept.below hW hS)) h0
end Go.Proofs.Ythjjpmcefiddmaa
