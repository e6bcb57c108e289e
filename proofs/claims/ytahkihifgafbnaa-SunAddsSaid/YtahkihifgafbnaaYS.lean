/- Copies of tables whose rows are owned. -/
import Derived.Test.YtahkihifgafbnaaYR
namespace Go.Proofs.Ytahkihifgafbnaa
open Go.RowKit

/-- The rows' blocks are slices' of numbers, as long as they may grow. -/
def RowsO (w : World) (k : Nat) (bs cs : Nat → Nat) : Prop := ∀ i, i < k → ∃ cur : Array Value, w.heap[bs i]? = some (.cells cur 3 (0, 0)) ∧ cur.size = cs i ∧ cs i ≤ maxLen
theorem RowsO.bel {base k : Nat} {w w' : World} {v : Value} {bs ls cs : Nat → Nat} {f : Nat → Nat → Int} (h : RowsO w k bs cs) (hG : Grid base w v k bs ls cs f) (hb : Bel w w') : RowsO w' k bs cs := fun i hi => by
  obtain ⟨cur, h1, h2, h3⟩ := h i hi
  obtain ⟨_, _, hr⟩ := hG.row i hi
  exact ⟨cur, by rw [hb.block _ hr.lt]; exact h1, h2, h3⟩
theorem RowsO.snoc {base k b c : Nat} {w w' : World} {v : Value} {bs ls cs : Nat → Nat} {f : Nat → Nat → Int} (h : RowsO w k bs cs) (hG : Grid base w v k bs ls cs f) (hb : b < w.heap.size) (hn : v.ownBlock ≠ some b)
    (hc : ∃ cur : Array Value, w.heap[b]? = some (.cells cur 3 (0, 0)) ∧ cur.size = c ∧ c ≤ maxLen) (hg : w.grownBy w' v.ownBlock) : RowsO w' (k + 1) (fun i => if i = k then b else bs i) (fun i => if i = k then c else cs i) := fun i hi => by
  by_cases e : i = k
  · simp only [if_pos e]
    obtain ⟨cur, h1, h2, h3⟩ := hc
    exact ⟨cur, by rw [hg.block _ hb (fun e => hn e.symm)]; exact h1, h2, h3⟩
  · simp only [if_neg e]
    obtain ⟨cur, h1, h2, h3⟩ := h i (by omega)
    obtain ⟨_, _, hr⟩ := hG.row i (by omega)
    exact ⟨cur, by rw [hg.block _ hr.lt (fun e => hG.ne i (by omega) e.symm)]; exact h1, h2, h3⟩
theorem cur_of {base g n cap : Nat} {w : World} {xs : List Value} (h : w.ownsRow base 3 1 (.slice (some ⟨g, 0, none⟩) n cap) n xs) : ∃ cur : Array Value, w.heap[g]? = some (.cells cur 3 (0, 0)) ∧ cur.size = cap ∧ cap ≤ maxLen := by
  rcases h.2 with ⟨e, _⟩ | ⟨g', cap', cur, hv, hb, hg, hn, hm, hs, ht⟩
  · cases e
  · cases hv
    exact ⟨cur, hg, by rw [hs, Nat.mul_one], hm⟩
/-- A row, owned. -/
theorem row_own {base k : Nat} {w : World} {v : Value} {bs ls cs : Nat → Nat} {f : Nat → Nat → Int} (hG : Grid base w v k bs ls cs f) (h : RowsO w k bs cs) {i : Nat} (hi : i < k) : w.ownsRow base 3 1 (.slice (some ⟨bs i, 0, none⟩) (ls i) (cs i)) (ls i) ((List.range (ls i)).map fun j => .int .i64 (f i j)) := by
  obtain ⟨cur, h1, h2, h3⟩ := h i hi
  obtain ⟨m, _, hr⟩ := hG.row i hi
  have hl : ls i ≤ cs i := by
    by_cases h0 : ls i = 0
    · omega
    · have := hr.cells (ls i - 1) (by omega)
      simp only [World.cell?, h1] at this
      have hlt := (Array.getElem?_eq_some_iff.1 (by simpa using this)).1
      omega
  refine ⟨by simp, .inr ⟨bs i, cs i, cur, rfl, hG.lo i hi, h1, hl, h3, by rw [h2, Nat.mul_one], ?_⟩⟩
  rw [Nat.mul_one]
  refine List.ext_getElem? fun j => ?_
  by_cases hj : j < ls i
  · have := hr.cells j hj
    rw [List.getElem?_take_of_lt hj, List.getElem?_map, List.getElem?_range hj]
    simp [World.cell?, h1] at this
    simpa using this
  · rw [List.getElem?_eq_none (by simp; omega), List.getElem?_eq_none (by simp; omega)]
set_option maxRecDepth 100000 in
set_option maxHeartbeats 4000000 in
theorem rCopyO_any (A : Option Addr) (n c : Nat) (X : List (List Int)) (w : World) (hX : Tab 0 w A X) (hn : X.length = n) (hn9 : n ≤ 100) (hr : ∀ r ∈ X, r.length ≤ 100) :
    Calls Try.prog 67 #[.slice A n c] w fun e w' => ∃ v, e = .returned v ∧ Bel w w' ∧ ∃ bs cs, Grid w.heap.size w' v n bs (lenT X) cs (ent X) ∧ RowsO w' n bs cs := by
  obtain ⟨i0, hi, hz0, hz1, hz2⟩ := info_parts info1S
  obtain ⟨i1, hj, hy0, hy1, hy2⟩ := info_parts info1I
  have HN := Lib.hid hn
  have HR := Lib.hid hr
  have hni : (n : Int) ≤ 100 := by omega
  clear hn hr
  go_enter Try.func67, Try.ntmps67
  go_wp2
  go_loopw [3, 4] (fun v i wr => ∃ k : Nat, k ≤ n ∧ i = .int .i64 k ∧ Bel w wr ∧ ∃ bs cs, Grid w.heap.size wr v k bs (lenT X) cs (ent X) ∧ RowsO wr k bs cs) (fun _ i _ => n - (intOf i).toNat)
  case atStart => exact ⟨0, Nat.zero_le _, rfl, Bel.refl _, _, _, (Grid.nil _ _).congr (fun i h => by omega) (fun i j h => by omega), fun i h => by omega⟩
  case round =>
    obtain ⟨k, hk, rfl, hb, bs, cs, hO, hRO⟩ := hrel
    by_cases hlt : k < n
    · obtain ⟨b, o, ns, A', m, c', rfl, hbl, hg, hc1, hI, hl', hm'⟩ := hX.at_ (k := k) (by rw [HN.out]; exact hlt)
      have hO1 := hO.own
      have HE := Lib.hid (show lenT X k = ns.length ∧ ∀ j, ent X k j = ns.getD j 0 by unfold lenT ent; rw [hg]; exact ⟨rfl, fun j => (List.getD_eq_getElem?_getD ..).symm⟩)
      have hX1 := Lib.hid (show k + 1 ≤ maxLen by unfold maxLen; omega)
      have hX2 := Lib.hid (show (k + 1) * 24 ≤ 140737488355328 by omega)
      have hbase := hb.size
      have HL := Lib.hid hl'
      have HM := Lib.hid (HR.out ns (List.mem_of_getElem? hg))
      have hc1' : wr.cell? ⟨b, o + k, none⟩ = some (.slice A' m c') := by rw [hb.use.1 _ _ hbl]; exact hc1
      have hc2' : (wr.alloc (.cells #[] 3)).cell? ⟨b, o + k, none⟩ = some (.slice A' m c') := by rw [(hb.alloc _).use.1 _ _ hbl]; exact hc1
      have hkn : (k : Int) < (n : Int) := by omega
      have hIr := hI.bel hb
      have hOO := Lib.hid hO
      have hROO := Lib.hid hRO
      have HO1 := Lib.hid hO1
      clear hg hl' hc1 hO hO1 hRO
      by_cases h0 : m = 0
      · subst h0
        have hns : ns = [] := List.eq_nil_of_length_eq_zero HL.out
        subst hns
        have hb1 : Bel wr (wr.alloc (.cells #[] 3)) := (Bel.refl wr).alloc _
        go_wp2_with (at_builtin; first | (refine wpList_app0I rfl (.tmp 12) (.tmp 16) rfl ⟨wr.heap.size, 0, none⟩ _ _ (by rfl) (by rfl) ?_) | (refine wpList_append_lies _ rfl (.tmp 11) (.tmp 18) 22 rfl w.heap.size 26 i0 _ 1 24 Try.underlying22 hi hz0 hz1 hz2 rfl (by decide) u3 k _ (by rfl) ((ownsRow_bel HO1.out hb1).alloc _) ⟨wr.heap.size + 1, 0, none⟩ 1 1 [.slice (some ⟨wr.heap.size, 0, none⟩) 0 0] (by rfl) rfl (newS _ _ _ _ (by simp)) (oneS _ _ _) (by omega) hX1.out hX2.out (by simp <;> omega) _ rfl ?_; intro g3 cap3 w3 hown3 hgr3 hat3 hlt3))
        have hob : ∀ i, u3.ownBlock = some i → i < wr.heap.size := fun i h => (World.ownsRow.lt HO1.out i h).2
        have hrl : ∀ i, i < k → bs i < wr.heap.size := fun i h => by obtain ⟨_, _, h2⟩ := hOO.out.row i h; exact h2.lt
        have hR := Row.whole wr #[] 3 0 (fun _ => 0) (fun i hi => by omega)
        have hG3 := ((hOO.out.bel hb1).bel ((Bel.refl _).alloc (.cells #[.slice (some ⟨wr.heap.size, 0, none⟩) 0 0] 26))).snoc (g := g3) (cap := cap3) (b := wr.heap.size) (c := 0) (hR.alloc _) (Nat.le_refl _) hbase (fun e => by have := hob _ e; omega) (fun i h e => by have := hrl i h; omega) hown3 hgr3 hat3
        have hB3 := grown_own (w := w) ((hb.trans hb1).alloc _) HO1.out (Nat.le_refl _) hgr3
        have hRO3 := Lib.hid (((hROO.out.bel hOO.out hb1).bel (hOO.out.bel hb1) ((Bel.refl _).alloc (.cells #[.slice (some ⟨wr.heap.size, 0, none⟩) 0 0] 26))).snoc ((hOO.out.bel hb1).bel ((Bel.refl _).alloc _)) (b := wr.heap.size) (c := 0) (by simp <;> omega) (fun e => by have := hob _ e; omega) ⟨#[], by rw [Below.heap_alloc _ _ _ (by simp)]; exact heap_alloc_new wr _, rfl, Nat.zero_le _⟩ hgr3)
        have hF := Lib.hid (hG3.congr (f' := ent X) (ls' := lenT X) (fun i h => by
          by_cases e : i = k
          · rw [if_pos e, e, HE.out.1]; exact HL.out
          · rw [if_neg e]) (fun i j h _ => by
          by_cases e : i = k
          · rw [if_pos e, e, HE.out.2]; try rfl
          · rw [if_neg e]))
        clear hown3 hgr3 hat3 hlt3 hob hrl hG3
        go_roundw
        case rel => exact ⟨k + 1, by omega, by go_num, hB3, _, _, hF.out, hRO3.out⟩
        case measure => simp [intOf]; omega
      · have hpos : 0 < m := by omega
        have hm1 : m ≤ 100 := by rw [← HL.out]; exact HM.out
        obtain ⟨b1, b2, rfl, hbl1, hnw⟩ := hIr.news (by intro e; rw [e] at HL; have := HL.out; simp at this; omega)
        have hnews : Hid (∀ w', Bel wr w' → ∀ j u, (ns.map fun x => Value.int .i64 x)[j]? = some u → w'.cell? ((⟨b1, b2, none⟩ : Addr).add j) = some u) := by
          intro w' hb' j u hj
          have := hnw j u hj
          rw [Go.Addr.add_mid] at this ⊢
          rw [hb'.use.1 _ _ hbl1]
          exact this
        have hlit : Hid ((wr.alloc (.cells #[] 3)).ownsRow wr.heap.size 3 1 (.slice (some ⟨wr.heap.size, 0, none⟩) 0 0) 0 []) := World.ownsRow_lit wr #[] 0 (Nat.le_refl _) (by unfold maxLen; omega) rfl
        have hX3 := Lib.hid (show 0 + m ≤ maxLen by unfold maxLen; omega)
        have hX4 := Lib.hid (show (0 + m) * 8 ≤ 140737488355328 by omega)
        clear hnw h0 hIr
        go_wp2_with (at_builtin; first | (refine wpList_append_lies _ rfl (.tmp 12) (.tmp 16) 26 rfl wr.heap.size 3 i1 _ 1 8 Try.underlying26 hj hy0 hy1 hy2 rfl (by decide) _ 0 [] (by rfl) hlit.out ⟨b1, b2, none⟩ m c' (ns.map fun x => .int .i64 x) (by rfl) (by rw [List.length_map, HL.out, Nat.mul_one]) (hnews.out _ (by (repeat (first | exact Bel.refl _ | assumption | refine Bel.drew ?_ | refine Bel.drewN ?_ _ | refine Bel.alloc ?_ _ | refine Bel.setCell ?_ (by first | omega | (simp; done) | (simp; omega) | (simp at *; omega)) _ | refine Bel.trans ?_ (by assumption))))) (one_map _) hpos hX3.out hX4.out (by simp) _ rfl ?_; intro g2 cap2 w1; rw [show 0 + m = m from Nat.zero_add m, List.nil_append]; intro hown2 hgr2 hat2 hlt2; have hb1 := grown_own (w := wr) ((Bel.refl wr).alloc _) hlit.out (Nat.le_refl _) hgr2; have HF := Lib.hid (Row.of_own (base := wr.heap.size) hown2); have HFC := Lib.hid (cur_of hown2); have hs1 := hb1.size; clear hown2 hgr2 hat2 hlt2) | (refine wpList_append_lies _ rfl (.tmp 11) (.tmp 18) 22 rfl w.heap.size 26 i0 _ 1 24 Try.underlying22 hi hz0 hz1 hz2 rfl (by decide) u3 k _ (by rfl) ((ownsRow_bel HO1.out hb1).alloc _) ⟨w1.heap.size, 0, none⟩ 1 1 [.slice (some ⟨g2, 0, none⟩) m cap2] (by rfl) rfl (newS _ _ _ _ rfl) (oneS _ _ _) (by omega) hX1.out hX2.out (by simp <;> omega) _ rfl ?_; intro g3 cap3 w3 hown3 hgr3 hat3 hlt3))
        have hob : ∀ i, u3.ownBlock = some i → i < wr.heap.size := fun i h => (World.ownsRow.lt HO1.out i h).2
        have hrl : ∀ i, i < k → bs i < wr.heap.size := fun i h => by obtain ⟨_, _, h2⟩ := hOO.out.row i h; exact h2.lt
        obtain ⟨r1, r2, hR⟩ := HF.out
        have hG3 := ((hOO.out.bel hb1).bel ((Bel.refl w1).alloc (.cells #[.slice (some ⟨g2, 0, none⟩) m cap2] 26))).snoc (g := g3) (cap := cap3) (b := g2) (c := cap2) (hR.alloc _) r2 (by omega) (fun e => by have := hob _ e; omega) (fun i h e => by have := hrl i h; omega) hown3 hgr3 hat3
        have hB3 := grown_own (w := w) ((hb.trans hb1).alloc _) HO1.out (Nat.le_refl _) hgr3
        have hRO3 := Lib.hid (((hROO.out.bel hOO.out hb1).bel (hOO.out.bel hb1) ((Bel.refl w1).alloc (.cells #[.slice (some ⟨g2, 0, none⟩) m cap2] 26))).snoc ((hOO.out.bel hb1).bel ((Bel.refl w1).alloc _)) (b := g2) (c := cap2) (by have := hR.lt; simp <;> omega) (fun e => by have := hob _ e; omega) (by obtain ⟨cur, z1, z2, z3⟩ := HFC.out; exact ⟨cur, by rw [Below.heap_alloc _ _ _ hR.lt]; exact z1, z2, z3⟩) hgr3)
        have hF := Lib.hid (hG3.congr (f' := ent X) (ls' := lenT X) (fun i h => by
          by_cases e : i = k
          · rw [if_pos e, e, HE.out.1]; exact HL.out
          · rw [if_neg e]) (fun i j h _ => by
          by_cases e : i = k
          · rw [if_pos e, e, HE.out.2]; try rfl
          · rw [if_neg e]))
        clear hown3 hgr3 hat3 hlt3 hob hrl hG3
        go_roundw
        case rel => exact ⟨k + 1, by omega, by go_num, hB3, _, _, hF.out, hRO3.out⟩
        case measure => simp [intOf]; omega
    · obtain rfl : k = n := by omega
      go_wp2
      refine bodyPost_ret (v := u3) (by simp [results, Try.results67, go_sem]) rfl ⟨u3, rfl, hb, bs, cs, hO, hRO⟩
end Go.Proofs.Ytahkihifgafbnaa
