/- The strips that are not in a list, one by one; beatsOver; isKing. -/
import Derived.Test.YtahkihifgafbnaaK
namespace Go.Proofs.Ytahkihifgafbnaa
open Go.RowKit

attribute [local go_sem] Oper.semAt_some

/-- Those of the first k strips for which p holds, in their order. -/
def iterTo {m : Nat} (p : Fin m → Bool) (k : Nat) : List (Fin m) := ((List.finRange m).take k).filter p
theorem iterTo_zero {m : Nat} (p : Fin m → Bool) : iterTo p 0 = [] := by simp [iterTo]
theorem iterTo_next {m k : Nat} {p : Fin m → Bool} (hk : k < m) : iterTo p (k + 1) = iterTo p k ++ if p ⟨k, hk⟩ = true then [⟨k, hk⟩] else [] := by
  have hg : (List.finRange m)[k]? = some ⟨k, hk⟩ := by
    rw [List.getElem?_eq_getElem (by simpa using hk)]
    simp
  unfold iterTo
  rw [take_at hg, List.filter_append]
  cases h : p ⟨k, hk⟩ <;> simp [h]
theorem iterTo_lt {m k : Nat} {p : Fin m → Bool} (hk : k < m) : (iterTo p k).length < m := by
  unfold iterTo
  refine Nat.lt_of_le_of_lt (List.length_filter_le _ _) ?_
  rw [List.length_take]
  omega
theorem iterTo_pre {m k : Nat} {p : Fin m → Bool} : iterTo p k <+: iterTo p m := by
  unfold iterTo
  refine List.IsPrefix.filter _ ?_
  rw [show (List.finRange m).take m = List.finRange m from List.take_of_length_le (by simp)]
  exact List.take_prefix _ _
/-- Is a strip not in the list? -/
def outP (m : Nat) (l : List Int) (x : Fin m) : Bool := !hasB l (x.val : Int)
def restO (m : Nat) (l : List Int) : List (Fin m) := iterTo (outP m l) m
/-- The slice reads as the integers, all of it in blocks of S. -/
def IntsS (S : Nat → Prop) (w : World) (A : Option Addr) (ns : List Int) : Prop :=
  ns = [] ∨ ∃ b o, A = some ⟨b, o, none⟩ ∧ S b ∧ ∀ (j : Nat) (v : Int), ns[j]? = some v → w.cell? ⟨b, o + j, none⟩ = some (.int .i64 v)
theorem IntsS.kept {S : Nat → Prop} {w w' : World} {A : Option Addr} {ns : List Int} (h : IntsS S w A ns) (hk : Kept S w w') : IntsS S w' A ns := by
  rcases h with h | ⟨b, o, hA, hb, hc⟩
  · exact .inl h
  · exact .inr ⟨b, o, hA, hb, fun j v hj => (hk.cell hb).trans (hc j v hj)⟩
theorem IntsS.ints {S : Nat → Prop} {w : World} {A : Option Addr} {ns : List Int} (h : IntsS S w A ns) : Ints w A ns := by
  rcases h with h | ⟨b, o, hA, hb, hc⟩
  · exact .inl h
  · cases ns with
    | nil => exact .inl rfl
    | cons x r =>
      have h0 := hc 0 x rfl
      exact .inr ⟨b, o, hA, by have := block_lt_of_cell h0; simpa using this, hc⟩
theorem Ints.toS {w : World} {A : Option Addr} {ns : List Int} (h : Ints w A ns) : IntsS (· < w.heap.size) w A ns := by
  rcases h with h | ⟨b, o, hA, hb, hc⟩
  · exact .inl h
  · exact .inr ⟨b, o, hA, hb, hc⟩
theorem IntsS.mono {S S' : Nat → Prop} {w : World} {A : Option Addr} {ns : List Int} (h : IntsS S w A ns) (hS : ∀ k, S k → S' k) : IntsS S' w A ns := by
  rcases h with h | ⟨b, o, hA, hb, hc⟩
  · exact .inl h
  · exact .inr ⟨b, o, hA, hS _ hb, hc⟩

set_option maxRecDepth 100000 in
set_option maxHeartbeats 2000000 in
theorem others1_in (N l Bt Bs : Nat) (S : Nat → Prop) (A : Option Addr) (m c : Nat) (E : Option Addr) (q d : Nat) (ns : List Int) (hm : m ≤ 100) (hq : ns.length = q) (hq9 : q ≤ maxLen) (hBt0 : S Bt) (hBs0 : S Bs) (J Jx : List (Fin m) → World → Prop)
    (hY : ∀ pre x W, J pre W → pre.length < m → YieldAt Fence.wide N Try.prog l #[.int .i64 (x.val : Int)] W fun e W' =>
      (e = .returned (.bool true) ∧ J (pre ++ [x]) W' ∧ Kept S W W') ∨ (e = .returned (.bool false) ∧ Jx (pre ++ [x]) W'))
    (W : World) (hBt : W.cell? ⟨Bt, 0, none⟩ = some (.slice A m c)) (hBs : W.cell? ⟨Bs, 0, none⟩ = some (.slice E q d)) (hI : IntsS S W E ns) (h0 : J [] W) :
    CallsIn Fence.wide (N + 1) Try.prog 124 #[.func (.yield l) #[] #[], .pointer (some ⟨Bt, 0, none⟩), .pointer (some ⟨Bs, 0, none⟩)] W fun e W' => (∃ v, e = .returned v) ∧
      ((∃ ys, ys = restO m ns ∧ J ys W') ∨ (∃ pre, pre <+: restO m ns ∧ Jx pre W')) := by
  have Hq := Lib.hid hq
  clear hq
  refine callsIn_of_wp Try.func124 rfl trivial ?_ rfl
  simp only [Try.ntmps124, List.size_toArray, List.length_cons, List.length_nil, Nat.reduceAdd, Nat.reduceSub, Array.replicate_succ, Array.replicate_zero, List.push_toArray, List.append_toArray, List.nil_append, List.cons_append]
  gi_wp2
  gi_loopw [4, 7] (fun _ i wr => ∃ k : Nat, k ≤ m ∧ i = .int .i64 k ∧ J (iterTo (outP m ns) k) wr ∧ Kept S W wr)
    (fun _ i _ => m - (intOf i).toNat)
  case atStart => exact ⟨0, Nat.zero_le _, rfl, by rw [iterTo_zero]; exact h0, Kept.refl _ _⟩
  case round =>
    obtain ⟨k, hk, rfl, hJs, hnx⟩ := hrel
    have hc1 : wr.cell? ⟨Bt, 0, none⟩ = some (.slice A m c) := (hnx.cell hBt0).trans hBt
    have hc2 : wr.cell? ⟨Bs, 0, none⟩ = some (.slice E q d) := (hnx.cell hBs0).trans hBs
    have hIw := (hI.kept hnx).ints
    by_cases hlt : k < m
    · have hki : (k : Int) < (m : Int) := by omega
      cases hd : hasB ns (k : Int)
      · have hp : outP m ns ⟨k, hlt⟩ = true := by simp [outP, hd]
        obtain ⟨fn, tmps, assign, body, hy, hR⟩ := hY _ ⟨k, hlt⟩ wr hJs (iterTo_lt hlt)
        dsimp only at hy
        gi_wp2_with (first | (refine ⟨trivial, ?_⟩; gi_at_call 117; refine (callsIn_wide.2 (contains_any E q d ns (k : Int) _ hIw Hq.out hq9)).mono ?_; rintro e w' ⟨rfl, rfl⟩; rw [hd]) | fail)
        refine hR.mono ?_
        rintro e W3 (⟨rfl, hJ3, hk3⟩ | ⟨rfl, hJx3⟩)
        · gi_wp2
          go_roundw
          case rel => exact ⟨k + 1, by omega, by go_num, by rw [iterTo_next hlt, if_pos hp]; exact hJ3, hnx.trans hk3⟩
          case measure => simp [intOf]; omega
        · gi_wp2
          refine bodyPost_ret (results_none rfl _ _ _) rfl ?_
          exact ⟨⟨_, rfl⟩, .inr ⟨_, by have := iterTo_pre (p := outP m ns) (k := k + 1); rwa [iterTo_next hlt, if_pos hp] at this, hJx3⟩⟩
      · have hp : ¬ outP m ns ⟨k, hlt⟩ = true := by simp [outP, hd]
        gi_wp2_with (first | (refine ⟨trivial, ?_⟩; gi_at_call 117; refine (callsIn_wide.2 (contains_any E q d ns (k : Int) _ hIw Hq.out hq9)).mono ?_; rintro e w' ⟨rfl, rfl⟩; rw [hd]) | fail)
        refine ⟨fun _ h => (by cases h), ?_⟩
        gi_wp2
        go_roundw
        case rel => exact ⟨k + 1, by omega, by go_num, by rw [iterTo_next hlt, if_neg hp, List.append_nil]; exact hJs, hnx⟩
        case measure => simp [intOf]; omega
    · obtain rfl : k = m := by omega
      gi_wp2
      go_end0
      exact ⟨⟨_, rfl⟩, .inl ⟨_, rfl, hJs⟩⟩
set_option maxHeartbeats 1000000 in
theorem others_in (A : Option Addr) (m c : Nat) (E : Option Addr) (q d : Nat) (w : World) :
    Calls Try.prog 114 #[.slice A m c, .slice E q d] w fun e w' => e = .returned (.func (.func 124) #[] #[.pointer (some ⟨w.heap.size, 0, none⟩), .pointer (some ⟨w.heap.size + 1, 0, none⟩)]) ∧ w' = (w.alloc (.cells #[.slice A m c] 61)).alloc (.cells #[.slice E q d] 26) := by
  refine (callsIn_wide (n := 1)).1 ?_
  refine callsIn_of_wp Try.func114 rfl trivial ?_ rfl
  simp only [Try.ntmps114, List.size_toArray, List.length_cons, List.length_nil, Nat.reduceAdd, Nat.reduceSub, Array.replicate_succ, Array.replicate_zero, List.push_toArray, List.append_toArray, List.nil_append, List.cons_append]
  gi_wp2
  go_ret
  exact ⟨rfl, rfl⟩
theorem others_stops (N Bt Bs : Nat) (S : Nat → Prop) (A : Option Addr) (m c : Nat) (E : Option Addr) (q d : Nat) (ns : List Int) (w : World) (hm : m ≤ 100) (hq : ns.length = q) (hq9 : q ≤ maxLen) (hBt0 : S Bt) (hBs0 : S Bs) (hS : ∀ k, S k → k < w.heap.size)
    (hBt : w.cell? ⟨Bt, 0, none⟩ = some (.slice A m c)) (hBs : w.cell? ⟨Bs, 0, none⟩ = some (.slice E q d)) (hI : IntsS S w E ns) :
    SeqStopsK Fence.wide (N + 1) Try.prog 124 #[.pointer (some ⟨Bt, 0, none⟩), .pointer (some ⟨Bs, 0, none⟩)] (fun x : Fin m => #[Value.int .i64 (x.val : Int)]) (Kept S) (fun ys => ys = restO m ns) (fun pre => pre <+: restO m ns) m w := fun l J Jx W hW _ _ hY h0 =>
  others1_in N l Bt Bs S A m c E q d ns hm hq hq9 hBt0 hBs0 J Jx hY W ((Kept.below hW hS).cell hBt0 |>.trans hBt) ((Kept.below hW hS).cell hBs0 |>.trans hBs) (hI.kept (Kept.below hW hS)) h0
end Go.Proofs.Ytahkihifgafbnaa
