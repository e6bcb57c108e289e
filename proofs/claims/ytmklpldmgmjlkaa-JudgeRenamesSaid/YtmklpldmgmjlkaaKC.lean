/- Records: the grades that are left. -/
import Derived.Test.YtmklpldmgmjlkaaKB
namespace Go.Proofs.Ytmklpldmgmjlkaa
open Go.RowKit

/-- The slice v is the call's own, from block 'base' on, and holds the integers l. -/
def Own1 (e base : Nat) (w : World) (v : Value) (l : List Int) : Prop := w.ownsRow base e 1 v l.length (l.map fun x => .int .i64 x)
section
variable {e base : Nat} {w w' : World} {v : Value} {l : List Int}
theorem Own1.nil (e base : Nat) (w : World) : Own1 e base w (.slice none 0 0) [] := World.ownsRow_nil _ _ _ _
theorem Own1.alloc (h : Own1 e base w v l) (o : Obj) : Own1 e base (w.alloc o) v l := World.ownsRow.alloc h o
theorem Own1.bel (h : Own1 e base w v l) (hb : Bel w w') : Own1 e base w' v l :=
  World.ownsRow.kept (row := none) h ⟨hb.os, hb.tape, hb.output, hb.size, fun k hk _ => hb.block k hk⟩ (by
    cases hv : v.ownBlock with
    | none => exact .inl rfl
    | some k => exact .inr (by simp))
theorem Own1.snoc {a : Int} (h : w'.ownsRow base e 1 v (l.length + 1) ((l.map fun x => .int .i64 x) ++ [.int .i64 a])) : Own1 e base w' v (l ++ [a]) := by
  unfold Own1
  have e1 : (l ++ [a]).length = l.length + 1 := by simp
  have e2 : (l ++ [a]).map (fun x => Value.int .i64 x) = (l.map fun x => .int .i64 x) ++ [.int .i64 a] := by simp
  rw [e1, e2]
  exact h
theorem Own1.form (h : Own1 e base w v l) : ∃ A n c, v = .slice A n c ∧ n = l.length ∧ Ints w A l := by
  rcases h.2 with ⟨rfl, h0⟩ | ⟨g, cap, cur, rfl, hb, hg, hn, hm, hs, ht⟩
  · exact ⟨none, 0, 0, rfl, by omega, .inl (List.eq_nil_of_length_eq_zero h0)⟩
  · have hlt := (World.ownsRow.lt h g rfl).2
    have hc := World.ownsRow.cells (g := g) h rfl
    refine ⟨_, _, _, rfl, rfl, .inr ⟨g, 0, rfl, hlt, fun j v hj => ?_⟩⟩
    have := hc j (.int .i64 v) (by rw [List.getElem?_map, hj]; rfl)
    rw [Go.Addr.add_mid] at this
    exact this
end
theorem new1 (w : World) (a : Int) (ty : TypeId) (g : Nat) (hg : g = w.heap.size) : ∀ j u, [Value.int .i64 a][j]? = some u → (w.alloc (.cells #[.int .i64 a] ty)).cell? ((⟨g, 0, none⟩ : Addr).add j) = some u := by
  subst hg
  intro j u hj
  rw [Go.Addr.add_mid]
  match j, hj with
  | 0, hj => simpa using hj
theorem one1 (a : Int) : ∀ u ∈ [Value.int .i64 a], u.oneCell' = true := by
  intro u hu
  simp at hu
  rw [hu]
  rfl
/-- What an append leaves of the rest. -/
theorem after_app {w wr w3 : World} {e base : Nat} {v : Value} {o : Obj} {l : List Int} (hb : Bel w wr) (h0 : w.heap.size ≤ base) (hO : Own1 e base wr v l) (hsz : base ≤ wr.heap.size)
    (hg : (wr.alloc o).grownBy w3 v.ownBlock) : Bel w w3 ∧ base ≤ w3.heap.size ∧ ∀ b, b < base → w3.heap[b]? = wr.heap[b]? := by
  have hr : ∀ i, v.ownBlock = some i → base ≤ i := fun i hi => (World.ownsRow.lt hO i hi).1
  have hbd : Bel w (wr.alloc o) := hb.alloc o
  refine ⟨Below.grown hbd hg hbd.size (fun i hi => Nat.le_trans h0 (hr i hi)), ?_, fun b hb' => ?_⟩
  · have := hg.size
    simp at this
    omega
  · rw [hg.block b (by simp; omega) (fun e => by have := hr b e.symm; omega)]
    exact Below.heap_alloc _ _ _ (by omega)
theorem info1I : (Try.prog.info? 3).map (fun i => (i.zero, i.size, i.bytes)) = some (some (.int .i64 0), 1, 8) := by kernel_rfl

/-- The grades with at most so many answers against them. -/
def leftL (L : List An) (g : Nat) (lies : Int) : List Int := ((List.range g).filter fun i => decide (cntI L i ≤ lies)).map fun (i : Nat) => (i : Int)
theorem leftL_snoc (L : List An) (k : Nat) (lies : Int) : leftL L (k + 1) lies = leftL L k lies ++ if cntI L k ≤ lies then [(k : Int)] else [] := by
  unfold leftL
  rw [List.range_succ, List.filter_append, List.map_append]
  by_cases h : cntI L k ≤ lies <;> simp [h]
theorem leftL_len (L : List An) (k : Nat) (lies : Int) : (leftL L k lies).length ≤ k := by
  unfold leftL
  rw [List.length_map]
  have := List.length_filter_le (fun i => decide (cntI L i ≤ lies)) (List.range k)
  simpa using this
/-- A new slice of integers. -/
def News (w : World) (l : List Int) (e : Ending) (w' : World) : Prop := ∃ A n c, e = .returned (.slice A n c) ∧ n = l.length ∧ Bel w w' ∧ Ints w' A l

set_option maxRecDepth 100000 in
set_option maxHeartbeats 2000000 in
theorem left_any (g : Nat) (A : Option Addr) (n c : Nat) (L : List An) (lies : Int) (w : World) (hR : Ans w A L) (hn : L.length = n) (h12 : n ≤ 12) (hg : g ≤ 16) :
    Calls Try.prog 26 #[.int .i64 (g : Int), .slice A n c, .int .i64 lies] w (News w (leftL L g lies)) := by
  have Hn := Lib.hid hn
  have hgi : (g : Int) ≤ 16 := by omega
  obtain ⟨i0, hi, hz0, hz1, hz2⟩ := info_parts info1I
  clear hn
  go_enter Try.func26, Try.ntmps26
  go_wp2_with fail
  refine (against_any g A n c L _ hR Hn.out h12 hg).mono ?_
  rintro e w1 ⟨b, rfl, hbw, hb1, hr1⟩
  have hbl := hr1.lt
  have hws : w.heap.size ≤ w1.heap.size := hb1.size
  go_wp2
  go_loopw [7, 14] (fun v i wr => ∃ k : Nat, k ≤ g ∧ i = .int .i64 k ∧ Bel w wr ∧ Row wr b g g (cntI L) ∧ Own1 3 w1.heap.size wr v (leftL L k lies) ∧ w1.heap.size ≤ wr.heap.size) (fun _ i _ => g - (intOf i).toNat)
  case atStart => exact ⟨0, Nat.zero_le _, rfl, hb1, hr1, Own1.nil _ _ _, Nat.le_refl _⟩
  case round =>
    clear hb1 hr1
    obtain ⟨k, hk, rfl, hb, hr, hO, hsz⟩ := hrel
    by_cases hlt : k < g
    · have hcell := hr.cells k hlt
      have hkg : (k : Int) < (g : Int) := by omega
      obtain ⟨v0, hv⟩ : ∃ v0, v0 = cntI L k := ⟨_, rfl⟩
      rw [← hv] at hcell
      have HS := Lib.hid (leftL_snoc L k lies)
      have hl := leftL_len L k lies
      obtain ⟨l, hll⟩ : ∃ l, l = leftL L k lies := ⟨_, rfl⟩
      rw [← hll] at hO hl
      have HL := Lib.hid hll; have HV := Lib.hid hv
      clear hll hv
      have hX1 := Lib.hid (show l.length + 1 ≤ maxLen by unfold maxLen; omega)
      have hX2 := Lib.hid (show (l.length + 1) * 8 ≤ 140737488355328 by omega)
      by_cases hle : v0 ≤ lies
      · have HQ : Hid (leftL L (k + 1) lies = l ++ [(k : Int)]) := by show _ = _; rw [HS.out, ← HV.out, if_pos hle, HL.out]
        go_wp2_with (at_builtin; go_loud (refine wpList_append_lies _ rfl (.tmp 22) (.tmp 24) 23 rfl w1.heap.size 3 i0 _ 1 8 Try.underlying23 hi hz0 hz1 hz2 rfl (by decide) u7 l.length (l.map fun x => .int .i64 x) (by rfl) (hO.alloc _) ⟨wr.heap.size, 0, none⟩ 1 1 [.int .i64 (k : Int)] (by rfl) rfl (new1 wr _ _ _ rfl) (one1 _) (by omega) hX1.out hX2.out (Nat.le_trans hsz (by simp)) _ rfl ?_); intro g3 cap3 w3 hown3 hgr3 _ hlt3)
        obtain ⟨hB3, hs3, hblk⟩ := after_app hb hws hO hsz hgr3
        have hr3 := hr.of_block (by have := hgr3.size; simp at this; omega) (hblk b hbl)
        have hO3 := Own1.snoc hown3
        clear hown3 hgr3 hlt3 hblk hb hr hO hcell
        go_roundw
        case rel => exact ⟨k + 1, by omega, by go_num, hB3, hr3, by rw [HQ.out]; exact hO3, hs3⟩
        case measure => simp [intOf]; omega
      · have HQ : Hid (leftL L (k + 1) lies = l) := by show _ = _; rw [HS.out, ← HV.out, if_neg hle, HL.out]; simp
        go_wp2
        go_roundw
        case rel => exact ⟨k + 1, by omega, by go_num, hb, hr, by rw [HQ.out]; exact hO, hsz⟩
        case measure => simp [intOf]; omega
    · obtain rfl : k = g := by omega
      obtain ⟨A', n', c', rfl, hn', hI⟩ := hO.form
      have HN := Lib.hid hn'
      clear hn' hO
      go_wp2
      go_ret
      exact ⟨A', n', c', rfl, HN.out, hb, hI⟩
end Go.Proofs.Ytmklpldmgmjlkaa

