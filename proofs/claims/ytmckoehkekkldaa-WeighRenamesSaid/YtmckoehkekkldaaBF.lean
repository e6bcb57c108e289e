/- slices.Values: its iterator, for every loop body that keeps what lay below. -/
import Derived.Test.YtmckoehkekkldaaBB
import Derived.RangeFuncNested
import Derived.RangeFuncBound
import Derived.RangeFuncCalls
import Derived.RangeFuncLeaves
import Derived.Shelf.Abstract
import Derived.Shelf.RegionOpen
import Derived.WalkKit
import Derived.OwnWalkIn
import Derived.TacticsInMore
import Derived.LoopNIn
import Derived.LoopIn
namespace Go.Proofs.Ytmckoehkekkldaa
open Go.RowKit

attribute [local go_sem] Oper.semAt_some

/-- What lies in the blocks of S is as it was. -/
def Kept (S : Nat → Prop) (w w' : World) : Prop := ∀ k, S k → w'.heap[k]? = w.heap[k]?
theorem Kept.refl (S : Nat → Prop) (w : World) : Kept S w w := fun _ _ => rfl
theorem Kept.trans {S : Nat → Prop} {a b c : World} (h : Kept S a b) (k : Kept S b c) : Kept S a c := fun i hi => (k i hi).trans (h i hi)
theorem Kept.cell {S : Nat → Prop} {w w' : World} (h : Kept S w w') {b o : Nat} (hb : S b) : w'.cell? ⟨b, o, none⟩ = w.cell? ⟨b, o, none⟩ := World.cell?_of_block (w := w) (a := ⟨b, o, none⟩) (h b hb)
theorem Kept.put {S : Nat → Prop} {w0 : World} (hS : ∀ k, S k → k < w0.heap.size) (W : World) (l : Nat) (o o' : Obj) (hl : w0.heap.size ≤ l) (_ : W.heap[l]? = some o) (_ : o.isCells = false) (_ : o.isWalk = false) : Kept S W (W.putObj l o') := fun k hk => World.putObj_heap_other (by have := hS k hk; omega)
theorem Kept.below {S : Nat → Prop} {n₀ : Nat} {w w' : World} (h : Below n₀ w w') (hS : ∀ k, S k → k < n₀) : Kept S w w' := fun k hk => h.block k (hS k hk)
/-- The slice at A reads as ns, in a block of S. -/
def IntsS (S : Nat → Prop) (W : World) (A : Option Addr) (ns : List Int) : Prop := ∃ b o, A = some ⟨b, o, none⟩ ∧ S b ∧ ∀ (j : Nat) (v : Int), ns[j]? = some v → W.cell? ⟨b, o + j, none⟩ = some (.int .i64 v)
theorem IntsS.kept {S : Nat → Prop} {w w' : World} {A : Option Addr} {ns : List Int} (h : IntsS S w A ns) (hb : Kept S w w') : IntsS S w' A ns := by
  obtain ⟨b, o, hA, hlt, hc⟩ := h
  exact ⟨b, o, hA, hlt, fun j v hj => (hb.cell hlt).trans (hc j v hj)⟩
theorem Ints.toS {w : World} {A : Option Addr} {ns : List Int} (h : Ints w A ns) (hne : ns ≠ []) : IntsS (· < w.heap.size) w A ns := by
  rcases h with h | ⟨b, o, rfl, hl, hc⟩
  · exact absurd h hne
  · exact ⟨b, o, rfl, hl, hc⟩

set_option maxHeartbeats 1000000 in
theorem values_in (A : Option Addr) (n c : Nat) (w : World) :
    Calls Try.prog 108 #[.slice A n c] w fun e w' => e = .returned (.func (.func 117) #[] #[.pointer (some ⟨w.heap.size, 0, none⟩)]) ∧ w' = w.alloc (.cells #[.slice A n c] 28) := by
  refine (callsIn_wide (n := 1)).1 ?_
  refine callsIn_of_wp Try.func108 rfl trivial ?_ rfl
  simp only [Try.ntmps108, List.size_toArray, List.length_cons, List.length_nil, Nat.reduceAdd, Nat.reduceSub, Array.replicate_succ, Array.replicate_zero, List.push_toArray, List.append_toArray, List.nil_append, List.cons_append]
  gi_wp2
  go_ret
  exact ⟨rfl, rfl⟩
set_option maxRecDepth 100000 in
set_option maxHeartbeats 2000000 in
theorem values1_in (N l Bt : Nat) (S : Nat → Prop) (A : Option Addr) (n c : Nat) (ns : List Int) (hn : ns.length = n) (hm : n ≤ 100) (J Jx : List Int → World → Prop)
    (hY : ∀ pre x W, J pre W → pre.length < n → YieldAt Fence.wide N Try.prog l #[.int .i64 x] W fun e W' =>
      (e = .returned (.bool true) ∧ J (pre ++ [x]) W' ∧ Kept S W W') ∨ (e = .returned (.bool false) ∧ Jx (pre ++ [x]) W'))
    (W : World) (hBt : W.cell? ⟨Bt, 0, none⟩ = some (.slice A n c)) (hI : IntsS S W A ns) (h0 : J [] W) :
    CallsIn Fence.wide (N + 1) Try.prog 117 #[.func (.yield l) #[] #[], .pointer (some ⟨Bt, 0, none⟩)] W fun e W' => (∃ v, e = .returned v) ∧
      ((∃ ys, ys = ns ∧ J ys W') ∨ (∃ pre, pre <+: ns ∧ Jx pre W')) := by
  refine callsIn_of_wp Try.func117 rfl trivial ?_ rfl
  simp only [Try.ntmps117, List.size_toArray, List.length_cons, List.length_nil, Nat.reduceAdd, Nat.reduceSub, Array.replicate_succ, Array.replicate_zero, List.push_toArray, List.append_toArray, List.nil_append, List.cons_append]
  gi_wp2
  gi_loopw [4, 7] (fun _ i wr => ∃ k : Nat, k ≤ n ∧ i = .int .i64 k ∧ J (ns.take k) wr ∧ Kept S W wr)
    (fun _ i _ => n - (intOf i).toNat)
  case atStart => exact ⟨0, Nat.zero_le _, rfl, h0, Kept.refl _ _⟩
  case round =>
    obtain ⟨k, hk, rfl, hJs, hnx⟩ := hrel
    have hIw := hI.kept hnx
    by_cases hlt : k < n
    · have hki : (k : Int) < (n : Int) := by omega
      have hk0 : (0 : Int) ≤ (k : Int) := by omega
      obtain ⟨b, o, rfl, hSb, hc⟩ := hIw
      have hg : ns[k]? = some (ns[k]'(by omega)) := List.getElem?_eq_getElem (by omega)
      obtain ⟨x, hx⟩ : ∃ x, x = ns[k]'(by omega) := ⟨_, rfl⟩
      rw [← hx] at hg
      have hcx := hc k x hg
      obtain ⟨fn, tmps, assign, body, hy, hR⟩ := hY _ x wr hJs (by rw [List.length_take]; omega)
      try dsimp only at hy
      have HT := Lib.hid (take_at hg)
      clear hx hg hc
      gi_wp2
      refine hR.mono ?_
      rintro e W3 (⟨rfl, hJ3, hk3⟩ | ⟨rfl, hJx3⟩)
      · gi_wp2
        go_roundw
        case rel => exact ⟨k + 1, by omega, by go_num, by rw [HT.out]; exact hJ3, hnx.trans hk3⟩
        case measure => simp [intOf]; omega
      · gi_wp2
        refine bodyPost_ret (results_none rfl _ _ _) rfl ?_
        exact ⟨⟨_, rfl⟩, .inr ⟨_, by rw [← HT.out]; exact List.take_prefix _ _, hJx3⟩⟩
    · obtain rfl : k = n := by omega
      gi_wp2
      go_end0
      exact ⟨⟨_, rfl⟩, .inl ⟨_, List.take_of_length_le (by omega), hJs⟩⟩
theorem values_stops (N Bt : Nat) (S : Nat → Prop) (A : Option Addr) (n c : Nat) (ns : List Int) (w : World) (hn : ns.length = n) (hm : n ≤ 100) (hBt0 : S Bt) (hS : ∀ k, S k → k < w.heap.size)
    (hBt : w.cell? ⟨Bt, 0, none⟩ = some (.slice A n c)) (hI : IntsS S w A ns) :
    SeqStopsK Fence.wide (N + 1) Try.prog 117 #[.pointer (some ⟨Bt, 0, none⟩)] (fun x : Int => #[Value.int .i64 x]) (Kept S) (fun ys => ys = ns) (fun pre => pre <+: ns) n w := fun l J Jx W hW _ _ hY h0 =>
  values1_in N l Bt S A n c ns hn hm J Jx hY W ((Kept.below hW hS).cell hBt0 |>.trans hBt) (hI.kept (Kept.below hW hS)) h0
end Go.Proofs.Ytmckoehkekkldaa
