/- slices.Sorted of slices.Values: a list in ascending order, in new memory. -/
import Derived.Test.YtmckoehkekkldaaBF
import Derived.Test.YtmckoehkekkldaaBD
import Derived.Sort.OwnSortedInts
namespace Go.Proofs.Ytmckoehkekkldaa
open Go.RowKit

attribute [local go_sem] Oper.semAt_some

/-- What is owned stays, where a block that holds no cells has turned. -/
theorem own_cells {w w' : World} {base e size n : Nat} {v : Value} {xs : List Value} {row : Option Nat} (h : w.ownsRow base e size v n xs) (hg : w.grownBy w' row) (hr : ∀ r, row = some r → ∃ o : Obj, w.heap[r]? = some o ∧ o.isCells = false) : w'.ownsRow base e size v n xs := by
  refine World.ownsRow.kept (row := row) h hg ?_
  rcases h.2 with ⟨rfl, _⟩ | ⟨g, cap, cur, rfl, _, hgb, _⟩
  · exact .inl rfl
  · refine .inr fun e' => ?_
    obtain ⟨o, ho, hw⟩ := hr g (by simpa [Value.ownBlock] using e'.symm)
    rw [hgb] at ho
    cases ho
    cases hw
theorem own_isCells {w : World} {base e size n : Nat} {v : Value} {xs : List Value} (h : w.ownsRow base e size v n xs) : ∀ (j : Nat) (o : Obj), v.ownBlock = some j → w.heap[j]? = some o → o.isCells = true := by
  intro j o hj ho
  rcases h.2 with ⟨rfl, _⟩ | ⟨g, cap, cur, rfl, _, hgb, _⟩
  · simp [Value.ownBlock] at hj
  · have : g = j := by simpa [Value.ownBlock] using hj
    subst this
    rw [hgb] at ho
    cases ho
    rfl
/-- While AppendSeq takes what comes: the box holds what has come. -/
structure ApI (w : World) (pre : List Int) (W : World) : Prop where
  bel : Bel w W
  box : ∃ v, W.cell? ⟨w.heap.size, 0, none⟩ = some v ∧ Own1 3 (w.heap.size + 1) W v pre
  fz : W.frozen? ⟨w.heap.size, 0, none⟩ = false
  lt : w.heap.size < W.heap.size
theorem apI_own (w : World) {B : Nat} (hB : w.heap.size < B) : OwnFrom B (ApI w) := fun s W W' row hs hg hr => by
  have hk : W'.heap[w.heap.size]? = W.heap[w.heap.size]? := hg.block _ hs.lt (fun e => by have := (hr _ e.symm).1; omega)
  obtain ⟨v, h1, h2⟩ := hs.box
  exact ⟨Below.grown hs.bel hg hs.bel.size (fun k e => by have := (hr k e).1; omega), ⟨v, (World.cell?_of_block (w := W) (a := ⟨w.heap.size, 0, none⟩) hk).trans h1, own_cells h2 hg (fun r e => (hr r e).2)⟩,
    (World.frozen?_of_block (w := W) (a := ⟨w.heap.size, 0, none⟩) hk).trans hs.fz, Nat.lt_of_lt_of_le hs.lt hg.size⟩
set_option maxRecDepth 100000 in
set_option maxHeartbeats 4000000 in
theorem appendSeq_any (Bt : Nat) (A : Option Addr) (n c : Nat) (ns : List Int) (w : World) (hn : ns.length = n) (hm : n ≤ 100) (hBl : Bt < w.heap.size) (hBt : w.cell? ⟨Bt, 0, none⟩ = some (.slice A n c)) (hI : IntsS (· < w.heap.size) w A ns) :
    Calls Try.prog 120 #[.slice none 0 0, .func (.func 117) #[] #[.pointer (some ⟨Bt, 0, none⟩)]] w fun e w' => ∃ v, e = .returned v ∧ Own1 3 (w.heap.size + 1) w' v ns ∧ Bel w w' := by
  obtain ⟨i0, hi, hz0, hz1, hz2⟩ := info_parts info1I
  refine (callsIn_wide (n := 5)).1 ?_
  refine callsIn_of_wp_marks Try.func120 rfl trivial ?_ rfl
  simp only [Try.ntmps120, List.size_toArray, List.length_cons, List.length_nil, Nat.reduceAdd, Nat.reduceSub, Array.replicate_succ, Array.replicate_zero, List.push_toArray, List.append_toArray, List.nil_append, List.cons_append]
  gi_wp2
  have hB0 : Bel w (w.alloc (.cells #[.slice none 0 0] 28)) := (Bel.refl w).alloc _
  have hsz0 : (w.alloc (.cells #[.slice none 0 0] 28)).heap.size = w.heap.size + 1 := by simp
  have c0 : (w.alloc (.cells #[.slice none 0 0] 28)).cell? ⟨w.heap.size, 0, none⟩ = some (.slice none 0 0) := by go_simp
  have z0 : (w.alloc (.cells #[.slice none 0 0] 28)).frozen? ⟨w.heap.size, 0, none⟩ = false := by go_simp
  obtain ⟨W0, hW0⟩ : ∃ W0, w.alloc (.cells #[.slice none 0 0] 28) = W0 := ⟨_, rfl⟩
  rw [hW0] at hB0 hsz0 c0 z0 ⊢
  clear hW0
  have hBt0 : W0.cell? ⟨Bt, 0, none⟩ = some (.slice A n c) := by rw [hB0.use.1 _ _ hBl]; exact hBt
  have hI0 : IntsS (· < w.heap.size) W0 A ns := hI.kept (fun x hx => hB0.block x hx)
  refine wpIn_rangeFunc_ownF rfl (by omega) (gf := 117) (lb := #[.pointer (some ⟨Bt, 0, none⟩)]) rfl trivial (enters_of Try.func117 (by kernel_rfl) rfl)
    (values_stops 3 Bt (· < w.heap.size) A n c ns W0 hn hm hBl (fun x (h : x < w.heap.size) => by omega) hBt0 hI0)
    (fun h k => h.trans k) (Kept.put (fun x (h : x < w.heap.size) => by omega)) (Below.refl _ _) (fun _ => rfl)
    (ApI w) (fun _ _ _ => False) (apI_own w (by omega)) (fun _ _ _ _ _ hs _ _ => hs)
    ⟨hB0, ⟨_, c0, Own1.nil _ _ _⟩, z0, by omega⟩
    (fun x => { tmps := #[.slice none 0 0, .func (.func 117) #[] #[.pointer (some ⟨Bt, 0, none⟩)], .pointer (some ⟨w.heap.size, 0, none⟩), undef, .slice none 0 0, .int .i64 x, .func (.func 117) #[] #[.pointer (some ⟨Bt, 0, none⟩)], .int .i64 x, undef, undef, undef, undef, undef], defers := [] }) ?assign ?body ?done ?stop
  case assign =>
    intro l x W K hK
    gi_wp2
    simpa using hK
  case body =>
    rintro l pre x W ⟨hbW, ⟨v, cv, hO⟩, hfz, hlt⟩ hlen
    have hX1 := Lib.hid (show pre.length + 1 ≤ maxLen by unfold maxLen; omega)
    have hX2 := Lib.hid (show (pre.length + 1) * 8 ≤ 140737488355328 by omega)
    have hnb : ∀ b, v.ownBlock = some b → b ≠ w.heap.size := fun b hb e => by have := (World.ownsRow.lt hO b hb).1; omega
    gi_wp2_with (first | (gi_at_builtin; go_loud (refine wpListIn_append_own _ rfl (.tmp 8) (.tmp 10) 28 rfl (w.heap.size + 1) 3 i0 _ 1 8 Try.underlying28 hi hz0 hz1 hz2 rfl (by decide) v pre.length (pre.map fun x => .int .i64 x) rfl (World.ownsRow.alloc hO _) ⟨W.heap.size, 0, none⟩ 1 1 [.int .i64 x] rfl rfl (new1 W _ _ _ rfl) (one1 _) hX1.out hX2.out (by simp; omega) ?_); intro v3 w3 hown3 hgr3 hnil3; obtain ⟨g3, cap3, rfl⟩ : ∃ g3 cap3, v3 = .slice (some ⟨g3, 0, none⟩) (pre.length + 1) cap3 := (by rcases hown3.2 with ⟨_, h0⟩ | ⟨g', cap', cur', e, _⟩; exact absurd h0 (by omega); exact ⟨g', cap', e⟩); have hblk : w3.heap[w.heap.size]? = W.heap[w.heap.size]? := (hgr3.block w.heap.size (by simp; omega) (fun e => hnb _ e.symm rfl)).trans (Below.heap_alloc _ _ _ (by omega)); have hcell3 : w3.cell? ⟨w.heap.size, 0, none⟩ = some v := (by rw [World.cell?_of_block (w := W) hblk]; exact cv); have hfz3 : w3.frozen? ⟨w.heap.size, 0, none⟩ = false := (by rw [World.frozen?_of_block (w := W) hblk]; exact hfz); have hlt9 : w.heap.size < w3.heap.size := (by have h7 := hgr3.size; simp at h7; omega)) | fail)
    have hO3 := Own1.snoc hown3
    have hB3 : Bel w w3 := grown_own (w := w) (hbW.alloc _) hO (by omega) hgr3
    have hko : KeepsOthers W w3 := (KeepsOthers.alloc W _).trans (KeepsOthers.of_grownBy hgr3 (own_isCells (World.ownsRow.alloc hO _)))
    refine ⟨hko.trans (KeepsOthers.setCell _ _ _), fun k (hk : k < w.heap.size) => ?_, ?_, ?_, ?_, ?_⟩
    · rw [Below.heap_setCell _ _ _ _ (by simp; omega), hgr3.block k (by simp; omega) (fun e => by have h5 := (World.ownsRow.lt hO k e.symm).1; omega)]
      exact Below.heap_alloc _ _ _ (by omega)
    · exact hB3.setCell (p := ⟨w.heap.size, 0, none⟩) (Nat.le_refl _) _
    · exact ⟨_, World.cell?_setCell_same _ _ _ hcell3, own_store hO3 (by omega) _⟩
    · rw [World.frozen?_setCell]
      exact hfz3
    · simpa [World.setCell] using hlt9
  case done =>
    rintro D ys W hD rfl ⟨hbW, ⟨v, cv, hO⟩, hfz, hlt⟩ hK
    gi_wp2
    refine ⟨by simp, .inl ⟨D, _, rfl, run_takeDeferred hK, ?_⟩⟩
    have hg := grownBy_putObj' W D (.deferred none)
    refine ⟨v, by simp [results, Try.f120, go_sem], v, rfl, own_cells hO hg (fun r e => by cases e; exact ⟨_, hK, rfl⟩), Below.grown hbW hg hbW.size (fun k e => by cases e; omega)⟩
  case stop =>
    rintro D c pre W _ _ h _
    exact h.elim
end Go.Proofs.Ytmckoehkekkldaa
