/- The strips that a strip beats, one by one: the iterator's contract. -/
import Derived.Test.YtahkihifgafbnaaE
namespace Go.Proofs.Ytahkihifgafbnaa
open Go.RowKit

attribute [local go_sem] Oper.semAt_some

/-- Which of the first k strips it beats, in their order. -/
def outTo (T : List (List Int)) (m s k : Nat) : List (Fin m) := ((List.finRange m).take k).filter fun x => decide (ent T s x.val = 1)
theorem outTo_zero (T : List (List Int)) (m s : Nat) : outTo T m s 0 = [] := by simp [outTo]
theorem outTo_next {T : List (List Int)} {m s k : Nat} (hk : k < m) : outTo T m s (k + 1) = outTo T m s k ++ if ent T s k = 1 then [⟨k, hk⟩] else [] := by
  have hg : (List.finRange m)[k]? = some ⟨k, hk⟩ := by
    rw [List.getElem?_eq_getElem (by simpa using hk)]
    simp
  unfold outTo
  rw [take_at hg, List.filter_append]
  by_cases h : ent T s k = 1 <;> simp [h]
theorem outTo_all (T : List (List Int)) (m s : Nat) : outTo T m s m = (List.finRange m).filter fun x => decide (ent T s x.val = 1) := by
  unfold outTo
  rw [List.take_of_length_le (by simp)]
def outL (T : List (List Int)) (m s : Nat) : List (Fin m) := outTo T m s m
theorem outTo_len (T : List (List Int)) (m s k : Nat) : (outTo T m s k).length ≤ k := by
  unfold outTo
  refine Nat.le_trans (List.length_filter_le _ _) ?_
  rw [List.length_take]
  omega
theorem outTo_lt {T : List (List Int)} {m s k : Nat} (hk : k < m) : (outTo T m s k).length < m := Nat.lt_of_le_of_lt (outTo_len T m s k) hk
theorem outTo_pre {T : List (List Int)} {m s k : Nat} : outTo T m s k <+: outL T m s := by
  unfold outL outTo
  refine List.IsPrefix.filter _ ?_
  rw [show (List.finRange m).take m = List.finRange m from List.take_of_length_le (by simp)]
  exact List.take_prefix _ _

set_option maxRecDepth 100000 in
set_option maxHeartbeats 2000000 in
/-- The iterator, for every loop body that keeps what lay below n₀. -/
theorem beaten1_in (N l Bt Bs : Nat) (S : Nat → Prop) (A : Option Addr) (m c s : Nat) (T : List (List Int)) (hs : Square T m) (hm : m ≤ 100) (hsm : s < m) (hBt0 : S Bt) (hBs0 : S Bs) (J Jx : List (Fin m) → World → Prop)
    (hY : ∀ pre x W, J pre W → pre.length < m → YieldAt Fence.wide N Try.prog l #[.int .i64 (x.val : Int)] W fun e W' =>
      (e = .returned (.bool true) ∧ J (pre ++ [x]) W' ∧ Kept S W W') ∨ (e = .returned (.bool false) ∧ Jx (pre ++ [x]) W'))
    (W : World) (hBt : W.cell? ⟨Bt, 0, none⟩ = some (.slice A m c)) (hBs : W.cell? ⟨Bs, 0, none⟩ = some (.int .i64 (s : Int))) (hT : TabN S W A T) (h0 : J [] W) :
    CallsIn Fence.wide (N + 1) Try.prog 111 #[.func (.yield l) #[] #[], .pointer (some ⟨Bt, 0, none⟩), .pointer (some ⟨Bs, 0, none⟩)] W fun e W' => (∃ v, e = .returned v) ∧
      ((∃ ys, ys = outL T m s ∧ J ys W') ∨ (∃ pre, pre <+: outL T m s ∧ Jx pre W')) := by
  refine callsIn_of_wp Try.func111 rfl trivial ?_ rfl
  simp only [Try.ntmps111, List.size_toArray, List.length_cons, List.length_nil, Nat.reduceAdd, Nat.reduceSub, Array.replicate_succ, Array.replicate_zero, List.push_toArray, List.append_toArray, List.nil_append, List.cons_append]
  gi_wp2
  gi_loopw [4, 7] (fun _ i wr => ∃ k : Nat, k ≤ m ∧ i = .int .i64 k ∧ J (outTo T m s k) wr ∧ Kept S W wr)
    (fun _ i _ => m - (intOf i).toNat)
  case atStart => exact ⟨0, Nat.zero_le _, rfl, by rw [outTo_zero]; exact h0, Kept.refl _ _⟩
  case round =>
    obtain ⟨k, hk, rfl, hJs, hnx⟩ := hrel
    have hc1 : wr.cell? ⟨Bt, 0, none⟩ = some (.slice A m c) := (hnx.cell hBt0).trans hBt
    have hc2 : wr.cell? ⟨Bs, 0, none⟩ = some (.int .i64 (s : Int)) := (hnx.cell hBs0).trans hBs
    have hTw := hT.kept hnx
    by_cases hlt : k < m
    · have hki : (k : Int) < (m : Int) := by omega
      by_cases he : ent T s k = 1
      · obtain ⟨fn, tmps, assign, body, hy, hR⟩ := hY _ ⟨k, hlt⟩ wr hJs (outTo_lt hlt)
        dsimp only at hy
        have hd : decide (ent T s k = 1) = true := by simpa using he
        gi_wp2_with (refine ⟨trivial, ?_⟩; gi_at_call 80; refine (callsIn_wide.2 (beats_any S A m c s k T _ hTw hs hsm hlt)).mono ?_; rintro e w' ⟨rfl, rfl⟩; rw [hd])
        refine hR.mono ?_
        rintro e W3 (⟨rfl, hJ3, hk3⟩ | ⟨rfl, hJx3⟩)
        · gi_wp2
          go_roundw
          case rel => exact ⟨k + 1, by omega, by go_num, by rw [outTo_next hlt, if_pos he]; exact hJ3, hnx.trans hk3⟩
          case measure => simp [intOf]; omega
        · gi_wp2
          refine bodyPost_ret (results_none rfl _ _ _) rfl ?_
          exact ⟨⟨_, rfl⟩, .inr ⟨_, by have := outTo_pre (T := T) (m := m) (s := s) (k := k + 1); rwa [outTo_next hlt, if_pos he] at this, hJx3⟩⟩
      · have hd : decide (ent T s k = 1) = false := by simpa using he
        gi_wp2_with (first | (refine ⟨trivial, ?_⟩; gi_at_call 80; refine (callsIn_wide.2 (beats_any S A m c s k T _ hTw hs hsm hlt)).mono ?_; rintro e w' ⟨rfl, rfl⟩; rw [hd]) | fail)
        refine ⟨fun _ h => (by cases h), ?_⟩
        gi_wp2
        go_roundw
        case rel => exact ⟨k + 1, by omega, by go_num, by rw [outTo_next hlt, if_neg he, List.append_nil]; exact hJs, hnx⟩
        case measure => simp [intOf]; omega
    · obtain rfl : k = m := by omega
      gi_wp2
      go_end0
      exact ⟨⟨_, rfl⟩, .inl ⟨_, rfl, hJs⟩⟩
set_option maxHeartbeats 1000000 in
/-- **beaten**: table and strip are boxed; the function value captures both boxes. -/
theorem beaten_in (A : Option Addr) (m c : Nat) (s : Int) (w : World) :
    Calls Try.prog 79 #[.slice A m c, .int .i64 s] w fun e w' => e = .returned (.func (.func 111) #[] #[.pointer (some ⟨w.heap.size, 0, none⟩), .pointer (some ⟨w.heap.size + 1, 0, none⟩)]) ∧ w' = (w.alloc (.cells #[.slice A m c] 61)).alloc (.cells #[.int .i64 s] 3) := by
  refine (callsIn_wide (n := 1)).1 ?_
  refine callsIn_of_wp Try.func79 rfl trivial ?_ rfl
  simp only [Try.ntmps79, List.size_toArray, List.length_cons, List.length_nil, Nat.reduceAdd, Nat.reduceSub, Array.replicate_succ, Array.replicate_zero, List.push_toArray, List.append_toArray, List.nil_append, List.cons_append]
  gi_wp2
  go_ret
  exact ⟨rfl, rfl⟩
/-- beaten hands back a value that 'SeqStopsK': all that the strip beats, in its order; or a prefix of it, where a round has said 'no more'. -/
theorem beaten_stops (N Bt Bs : Nat) (S : Nat → Prop) (A : Option Addr) (m c s : Nat) (T : List (List Int)) (w : World) (hs : Square T m) (hm : m ≤ 100) (hsm : s < m) (hBt0 : S Bt) (hBs0 : S Bs) (hS : ∀ k, S k → k < w.heap.size)
    (hBt : w.cell? ⟨Bt, 0, none⟩ = some (.slice A m c)) (hBs : w.cell? ⟨Bs, 0, none⟩ = some (.int .i64 (s : Int))) (hT : TabN S w A T) :
    SeqStopsK Fence.wide (N + 1) Try.prog 111 #[.pointer (some ⟨Bt, 0, none⟩), .pointer (some ⟨Bs, 0, none⟩)] (fun x : Fin m => #[Value.int .i64 (x.val : Int)]) (Kept S) (fun ys => ys = outL T m s) (fun pre => pre <+: outL T m s) m w := fun l J Jx W hW _ _ hY h0 =>
  beaten1_in N l Bt Bs S A m c s T hs hm hsm hBt0 hBs0 J Jx hY W ((Kept.below hW hS).cell hBt0 |>.trans hBt) ((Kept.below hW hS).cell hBs0 |>.trans hBs) (hT.kept (Kept.below hW hS)) h0
end Go.Proofs.Ytahkihifgafbnaa
