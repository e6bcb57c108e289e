/- The first order with the fewest upsets: the program's search. -/
import Derived.Test.YtahkihifgafbnaaN
namespace Go.Proofs.Ytahkihifgafbnaa
open Go.RowKit

attribute [local go_sem] Oper.semAt_some

/-- The search from an order on, where d strips are left: the best order so far and its upsets. -/
def placeS (T : List (List Int)) (n : Nat) : Nat → List Int → Nat → List Int × Nat → List Int × Nat
  | 0, order, ups, st => if st.2 ≤ ups then st else (order, ups)
  | d + 1, order, ups, st => if st.2 ≤ ups then st else (restO n order).foldl (fun st x => placeS T n d (order ++ [(x.val : Int)]) (ups + beatN T x.val order) st) st
/-- All is as it was but what lies in the blocks F and B. -/
structure Two (F B : Nat) (w w' : World) : Prop where
  os : w'.os = w.os
  tape : w'.tape = w.tape
  output : w'.output = w.output
  size : w.heap.size ≤ w'.heap.size
  block : ∀ k, k < w.heap.size → k ≠ F → k ≠ B → w'.heap[k]? = w.heap[k]?
theorem Two.refl (F B : Nat) (w : World) : Two F B w w := ⟨rfl, rfl, rfl, Nat.le_refl _, fun _ _ _ _ => rfl⟩
theorem Two.trans {F B : Nat} {a b c : World} (h : Two F B a b) (k : Two F B b c) : Two F B a c :=
  ⟨k.os.trans h.os, k.tape.trans h.tape, k.output.trans h.output, Nat.le_trans h.size k.size, fun i hi h1 h2 => (k.block i (Nat.lt_of_lt_of_le hi h.size) h1 h2).trans (h.block i hi h1 h2)⟩
theorem Two.bel {F B : Nat} {a b c : World} (h : Two F B a b) (k : Bel b c) : Two F B a c :=
  ⟨k.os.trans h.os, k.tape.trans h.tape, k.output.trans h.output, Nat.le_trans h.size k.size, fun i hi h1 h2 => (k.block i (Nat.lt_of_lt_of_le hi h.size)).trans (h.block i hi h1 h2)⟩
theorem Two.put {F B : Nat} {a b : World} (h : Two F B a b) {g o : Nat} (hg : g = F ∨ g = B) (u : Value) : Two F B a (b.setCell ⟨g, o, none⟩ u) :=
  ⟨h.os, h.tape, h.output, by simpa [World.setCell] using h.size, fun k hk h1 h2 => (Below.heap_setCell _ _ _ _ (fun e => by rcases hg with rfl | rfl <;> simp_all)).trans (h.block k hk h1 h2)⟩
theorem Two.grown {F B : Nat} {a b c : World} {row : Option Nat} (h : Two F B a b) (hg : b.grownBy c row) (hr : ∀ r, row = some r → a.heap.size ≤ r) : Two F B a c :=
  ⟨hg.os.trans h.os, hg.tape.trans h.tape, hg.output.trans h.output, Nat.le_trans h.size hg.size, fun k hk h1 h2 => (hg.block k (Nat.lt_of_lt_of_le hk h.size) (fun e => by have := hr _ e.symm; omega)).trans (h.block k hk h1 h2)⟩
theorem own_two {β : Type} {N F B : Nat} {W0 : World} (hN : W0.heap.size ≤ N) : OwnFrom N (fun (_ : β) W => Two F B W0 W) := fun _ _ _ _ hs hg hr => hs.grown hg fun r e => Nat.le_trans hN (hr r e).1
theorem keeps_two {F B : Nat} {W W' : World} {u v : Value} (h : Two F B W W') (hF : W.cell? ⟨F, 0, none⟩ = some u) (hB : W.cell? ⟨B, 0, none⟩ = some v) : KeepsOthers W W' := by
  obtain ⟨o1, h1, c1⟩ := cells_of_cell hF
  obtain ⟨o2, h2, c2⟩ := cells_of_cell hB
  refine ⟨h.size, fun k o hk ho => (h.block k (Array.getElem?_eq_some_iff.1 hk).1 (fun e => ?_) (fun e => ?_)).trans hk⟩
  · subst e
    have : o = o1 := by simpa [hk] using h1
    subst this
    simp [c1] at ho
  · subst e
    have : o = o2 := by simpa [hk] using h2
    subst this
    simp [c2] at ho
/-- Where the best order and its upsets lie. -/
def BestAt (F B : Nat) (w : World) (st : List Int × Nat) : Prop :=
  w.cell? ⟨F, 0, none⟩ = some (.int .i64 (st.2 : Int)) ∧ w.frozen? ⟨F, 0, none⟩ = false ∧ w.frozen? ⟨B, 0, none⟩ = false ∧ ∃ E q c, w.cell? ⟨B, 0, none⟩ = some (.slice E q c) ∧ q = st.1.length ∧ IntsS (fun x => x < w.heap.size ∧ x ≠ F ∧ x ≠ B) w E st.1

theorem BestAt.bel {F B : Nat} {w w' : World} {st : List Int × Nat} (h : BestAt F B w st) (hb : Bel w w') : BestAt F B w' st := by
  obtain ⟨hF, zF, zB, E, q, c, hB, hq, hI⟩ := h
  have hlF := block_lt_of_cell hF; have hlB := block_lt_of_cell hB
  refine ⟨(hb.use.1 F 0 hlF).trans hF, (hb.use.2.1 F 0 hlF).trans zF, (hb.use.2.1 B 0 hlB).trans zB, E, q, c, (hb.use.1 B 0 hlB).trans hB, hq, ?_⟩
  exact (hI.kept (fun k hk => hb.block k hk.1)).mono (fun k hk => ⟨Nat.lt_of_lt_of_le hk.1 hb.size, hk.2⟩)

set_option maxRecDepth 100000 in
set_option maxHeartbeats 2000000 in
theorem place_stop (A : Option Addr) (n c F B Tb Pb : Nat) (ups : Nat) (st : List Int × Nat) (E : Option Addr) (q z : Nat) (w : World)
    (hBA : BestAt F B w st) (hTb : w.cell? ⟨Tb, 0, none⟩ = some (.slice A n c))
    (hPb : w.cell? ⟨Pb, 0, none⟩ = some (.func (.func 115) #[] #[.pointer (some ⟨F, 0, none⟩), .pointer (some ⟨Tb, 0, none⟩), .pointer (some ⟨B, 0, none⟩), .pointer (some ⟨Pb, 0, none⟩)])) (hle : st.2 ≤ ups) :
    Calls Try.prog 115 #[.slice E q z, .int .i64 (ups : Int), .pointer (some ⟨F, 0, none⟩), .pointer (some ⟨Tb, 0, none⟩), .pointer (some ⟨B, 0, none⟩), .pointer (some ⟨Pb, 0, none⟩)] w fun e w' =>
      (∃ v, e = .returned v) ∧ Two F B w w' ∧ BestAt F B w' st := by
  obtain ⟨hF, zF, zB, E0, q0, c0, hB, hq0, hI0⟩ := id hBA
  have hlF := block_lt_of_cell hF; have hlB := block_lt_of_cell hB; have hlT := block_lt_of_cell hTb; have hlP := block_lt_of_cell hPb
  have hB0 : Bel w ((w.alloc (.cells #[.slice E q z] 26)).alloc (.cells #[.int .i64 (ups : Int)] 3)) := by (repeat (first | exact Bel.refl _ | assumption | refine Bel.drew ?_ | refine Bel.drewN ?_ _ | refine Bel.alloc ?_ _ | refine Bel.setCell ?_ (by first | omega | (simp; done) | (simp; omega) | (simp at *; omega)) _ | refine Bel.trans ?_ (by assumption)))
  have cF := (hB0.use.1 F 0 hlF).trans hF; have yF := (hB0.use.2.1 F 0 hlF).trans zF
  have cB := (hB0.use.1 B 0 hlB).trans hB; have yB := (hB0.use.2.1 B 0 hlB).trans zB
  have cT := (hB0.use.1 Tb 0 hlT).trans hTb
  have cP := (hB0.use.1 Pb 0 hlP).trans hPb
  have hlei : (st.2 : Int) ≤ (ups : Int) := by omega
  refine (callsIn_wide (n := 9)).1 ?_
  refine callsIn_of_wp Try.func115 rfl trivial ?_ rfl
  simp only [Try.ntmps115, List.size_toArray, List.length_cons, List.length_nil, Nat.reduceAdd, Nat.reduceSub, Array.replicate_succ, Array.replicate_zero, List.push_toArray, List.append_toArray, List.nil_append, List.cons_append]
  gi_wp2
  refine bodyPost_ret (results_none rfl _ _ _) rfl ?_
  exact ⟨⟨_, rfl⟩, (Two.refl _ _ _).bel hB0, hBA.bel hB0⟩

set_option maxRecDepth 100000 in
set_option maxHeartbeats 2000000 in
theorem place_leaf (A : Option Addr) (n c F B Tb Pb : Nat) (hne : F ≠ B) (order : List Int) (ups : Nat) (st : List Int × Nat) (E : Option Addr) (q z : Nat) (w : World)
    (HDD : order.length = n) (hq : order.length = q) (hBA : BestAt F B w st) (hTb : w.cell? ⟨Tb, 0, none⟩ = some (.slice A n c))
    (hPb : w.cell? ⟨Pb, 0, none⟩ = some (.func (.func 115) #[] #[.pointer (some ⟨F, 0, none⟩), .pointer (some ⟨Tb, 0, none⟩), .pointer (some ⟨B, 0, none⟩), .pointer (some ⟨Pb, 0, none⟩)]))
    (hI : IntsS (fun x => x < w.heap.size ∧ x ≠ F ∧ x ≠ B) w E order) (hle : ¬ st.2 ≤ ups) :
    Calls Try.prog 115 #[.slice E q z, .int .i64 (ups : Int), .pointer (some ⟨F, 0, none⟩), .pointer (some ⟨Tb, 0, none⟩), .pointer (some ⟨B, 0, none⟩), .pointer (some ⟨Pb, 0, none⟩)] w fun e w' =>
      (∃ v, e = .returned v) ∧ Two F B w w' ∧ BestAt F B w' (order, ups) := by
  obtain ⟨hF, zF, zB, E0, q0, c0, hB, hq0, hI0⟩ := id hBA
  obtain rfl : q = n := by omega
  have hlF := block_lt_of_cell hF; have hlB := block_lt_of_cell hB; have hlT := block_lt_of_cell hTb; have hlP := block_lt_of_cell hPb
  have hB0 : Bel w ((w.alloc (.cells #[.slice E q z] 26)).alloc (.cells #[.int .i64 (ups : Int)] 3)) := by (repeat (first | exact Bel.refl _ | assumption | refine Bel.drew ?_ | refine Bel.drewN ?_ _ | refine Bel.alloc ?_ _ | refine Bel.setCell ?_ (by first | omega | (simp; done) | (simp; omega) | (simp at *; omega)) _ | refine Bel.trans ?_ (by assumption)))
  have cF := (hB0.use.1 F 0 hlF).trans hF; have yF := (hB0.use.2.1 F 0 hlF).trans zF
  have cB := (hB0.use.1 B 0 hlB).trans hB; have yB := (hB0.use.2.1 B 0 hlB).trans zB
  have cT := (hB0.use.1 Tb 0 hlT).trans hTb
  have cP := (hB0.use.1 Pb 0 hlP).trans hPb
  have hlei : ¬ (st.2 : Int) ≤ (ups : Int) := by omega
  refine (callsIn_wide (n := 9)).1 ?_
  refine callsIn_of_wp Try.func115 rfl trivial ?_ rfl
  simp only [Try.ntmps115, List.size_toArray, List.length_cons, List.length_nil, Nat.reduceAdd, Nat.reduceSub, Array.replicate_succ, Array.replicate_zero, List.push_toArray, List.append_toArray, List.nil_append, List.cons_append]
  gi_wp2
  gi_region
  all_goals gi_wp2
  all_goals (refine bodyPost_ret (results_none rfl _ _ _) rfl ?_)
  refine ⟨⟨_, rfl⟩, (((Two.refl F B w).put (.inr rfl) _).put (.inl rfl) _).bel ((((Bel.refl _).alloc _).alloc _).drew), BestAt.bel ?_ ((((Bel.refl _).alloc _).alloc _).drew)⟩
  have e1 := World.cell?_setCell_same' w ⟨B, 0, none⟩ (.slice E q z) (by rw [hB]; rfl)
  have e2 := World.cell?_setCell_same' (w.setCell ⟨B, 0, none⟩ (.slice E q z)) ⟨F, 0, none⟩ (.int .i64 (ups : Int)) (by rw [World.cell?_setCell_other _ _ _ _ (fun e => hne (by have := congrArg Addr.block e; first | exact this | exact this.symm)), hF]; rfl)
  refine ⟨e2, by rw [World.frozen?_setCell, World.frozen?_setCell]; exact zF, by rw [World.frozen?_setCell, World.frozen?_setCell]; exact zB, E, q, z, ?_, hq.symm, ?_⟩
  · rw [World.cell?_setCell_other _ _ _ _ (fun e => hne (by have := congrArg Addr.block e; first | exact this | exact this.symm))]
    exact e1
  · refine (hI.kept (fun k hk => ?_)).mono (fun k hk => by simpa [World.setCell] using hk)
    exact (Below.heap_setCell _ _ _ _ (fun e => hk.2.1 (by first | exact e | exact e.symm))).trans (Below.heap_setCell _ _ _ _ (fun e => hk.2.2 (by first | exact e | exact e.symm)))
end Go.Proofs.Ytahkihifgafbnaa
