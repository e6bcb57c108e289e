/- Empty tables of the program; copies of tables of the document. -/
import Derived.Test.YtahkihifgafbnaaYG
namespace Go.Proofs.Ytahkihifgafbnaa
open Go.RowKit

/-- A slice of its own of k rows of n numbers f. -/
def SqG (base : Nat) (w : World) (v : Value) (k n : Nat) (f : Nat → Nat → Int) : Prop := ∃ bs cs, Grid base w v k bs (fun _ => n) cs f
set_option maxRecDepth 100000 in
set_option maxHeartbeats 2000000 in
theorem empty_ok (n : Nat) (w : World) (hn : n ≤ 100) :
    Calls Try.prog 106 #[.int .i64 (n : Int)] w fun e w' => ∃ v, e = .returned v ∧ Bel w w' ∧ SqG w.heap.size w' v n n (fun _ _ => 0) := by
  obtain ⟨i0, hi, hz0, hz1, hz2⟩ := info_parts info1S
  have hmk : ∀ W : World, (Instr.makeSlice 26 (.int .i64 (n : Int)) (.int .i64 (n : Int))).run Try.prog W = .ok (.slice (some ⟨W.heap.size, 0, none⟩) n n) (W.alloc (.cells (madeCells #[.int .i64 0] n) 3)) :=
    fun W => run_make_row' 26 3 (.int .i64 0) 8 Try.underlying26 infoInt rfl .i64 .i64 n (by first | omega | (unfold maxLen; omega)) (by first | omega | (unfold maxLen; omega)) W
  go_enter Try.func106, Try.ntmps106
  go_wp2
  go_loopw [3, 5] (fun v i wr => ∃ k : Nat, k ≤ n ∧ i = .int .i64 k ∧ Bel w wr ∧ SqG w.heap.size wr v k n (fun _ _ => 0)) (fun _ i _ => n - (intOf i).toNat)
  case atStart => exact ⟨0, Nat.zero_le _, rfl, Bel.refl _, _, _, (Grid.nil _ _).congr (fun i h => by omega) (fun i j h => by omega)⟩
  case round =>
    obtain ⟨k, hk, rfl, hb, bs, cs, hG⟩ := hrel
    by_cases hlt : k < n
    · have hki : (k : Int) < (n : Int) := by omega
      have hbs := hb.size
      have hX1 := Lib.hid (show k + 1 ≤ maxLen by unfold maxLen; omega)
      have hX2 := Lib.hid (show (k + 1) * 24 ≤ 140737488355328 by omega)
      obtain ⟨W1, hW1⟩ : ∃ W1, W1 = (wr.alloc (.cells (madeCells #[.int .i64 0] n) 3)) := ⟨_, rfl⟩
      have hR := Row.whole wr (madeCells #[.int .i64 0] n) 3 n (fun _ => 0) (fun i hi => made_int n i hi)
      have hG1 := hG.bel ((Bel.refl wr).alloc (.cells (madeCells #[.int .i64 0] n) 3))
      have hb1 := hb.alloc (.cells (madeCells #[.int .i64 0] n) 3)
      have hs1 : W1.heap.size = wr.heap.size + 1 := by rw [hW1]; simp
      rw [← hW1] at hR hG1 hb1
      have HG := Lib.hid hG; have HG1 := Lib.hid hG1; have HR := Lib.hid hR; have HB1 := Lib.hid hb1; have HW1 := Lib.hid hW1
      clear hG hG1 hR hb1
      go_wp2_with (at_builtin; go_loud (rw [← hW1]; refine wpList_append_lies _ rfl (.tmp 7) (.tmp 10) 22 rfl w.heap.size 26 i0 _ 1 24 Try.underlying22 hi hz0 hz1 hz2 rfl (by decide) u3 k _ (by rfl) (HG1.out.bel ((Bel.refl W1).alloc _)).own ⟨wr.heap.size + 1, 0, none⟩ 1 1 [.slice (some ⟨wr.heap.size, 0, none⟩) n n] (by rfl) rfl (newS _ _ _ _ hs1.symm) (oneS _ _ _) (by omega) hX1.out hX2.out (by simp <;> omega) _ rfl ?_); intro g3 cap3 w3 hown3 hgr3 hat3 hlt3)
      have hob : ∀ i, u3.ownBlock = some i → i < wr.heap.size := fun i h => (World.ownsRow.lt HG.out.own i h).2
      have hrl : ∀ i, i < k → bs i < wr.heap.size := fun i h => by obtain ⟨_, _, h2⟩ := HG.out.row i h; exact h2.lt
      have hG3 := (HG1.out.bel ((Bel.refl W1).alloc (.cells #[.slice (some ⟨wr.heap.size, 0, none⟩) n n] 26))).snoc (g := g3) (cap := cap3) (b := wr.heap.size) (c := n) (HR.out.alloc _) (Nat.le_refl _) hbs (fun e => by have := hob _ e; omega) (fun i h e => by have := hrl i h; omega) hown3 hgr3 hat3
      have hB3 := grown_own (w := w) (HB1.out.alloc _) HG1.out.own (Nat.le_refl _) hgr3
      have hF := Lib.hid (hG3.congr (f' := fun _ _ => 0) (ls' := fun _ => n) (fun i h => by simp) (fun i j h _ => by by_cases e : i = k <;> simp [e]))
      clear hown3 hgr3 hat3 hlt3 hob hrl hG3
      go_wp2
      go_roundw
      case rel => exact ⟨k + 1, by omega, by go_num, hB3, _, _, hF.out⟩
      case measure => simp [intOf]; omega
    · obtain rfl : n = k := by omega
      go_wp2
      go_ret
      exact ⟨_, rfl, hb, bs, cs, hG⟩
def lenT (X : List (List Int)) (i : Nat) : Nat := (X[i]?.getD []).length
set_option maxRecDepth 100000 in
set_option maxHeartbeats 4000000 in
theorem rCopy_any (A : Option Addr) (n c : Nat) (X : List (List Int)) (w : World) (hX : Tab 0 w A X) (hn : X.length = n) (hn9 : n ≤ 100) (hr : ∀ r ∈ X, r.length ≤ 100) :
    Calls Try.prog 67 #[.slice A n c] w fun e w' => ∃ v, e = .returned v ∧ Bel w w' ∧ ∃ bs cs, Grid w.heap.size w' v n bs (lenT X) cs (ent X) := by
  obtain ⟨i0, hi, hz0, hz1, hz2⟩ := info_parts info1S
  obtain ⟨i1, hj, hy0, hy1, hy2⟩ := info_parts info1I
  have HN := Lib.hid hn
  have HR := Lib.hid hr
  have hni : (n : Int) ≤ 100 := by omega
  clear hn hr
  go_enter Try.func67, Try.ntmps67
  go_wp2
  go_loopw [3, 4] (fun v i wr => ∃ k : Nat, k ≤ n ∧ i = .int .i64 k ∧ Bel w wr ∧ ∃ bs cs, Grid w.heap.size wr v k bs (lenT X) cs (ent X)) (fun _ i _ => n - (intOf i).toNat)
  case atStart => exact ⟨0, Nat.zero_le _, rfl, Bel.refl _, _, _, (Grid.nil _ _).congr (fun i h => by omega) (fun i j h => by omega)⟩
  case round =>
    obtain ⟨k, hk, rfl, hb, bs, cs, hO⟩ := hrel
    by_cases hlt : k < n
    · obtain ⟨b, o, ns, A', m, c', rfl, hbl, hg, hc1, hI, hl', hm'⟩ := hX.at_ (k := k) (by rw [HN.out]; exact hlt)
      have hO1 := hO.own
      have HE := Lib.hid (show lenT X k = ns.length ∧ ∀ j, ent X k j = ns.getD j 0 by unfold lenT ent; rw [hg]; exact ⟨rfl, fun j => (List.getD_eq_getElem?_getD ..).symm⟩)
      have hX1 := Lib.hid (show k + 1 ≤ maxLen by unfold maxLen; omega)
      have hX2 := Lib.hid (show (k + 1) * 24 ≤ 140737488355328 by omega)
      have hbase := hb.size
      have HL := Lib.hid hl'
      have HM := Lib.hid (HR.out ns (List.mem_of_getElem? hg))
      have hc1' : wr.cell? ⟨b, o + k, none⟩ = some (.slice A' m c') := by rw [hb.use.1 _ _ hbl]; exact hc1
      have hc2' : (wr.alloc (.cells #[] 3)).cell? ⟨b, o + k, none⟩ = some (.slice A' m c') := by rw [(hb.alloc _).use.1 _ _ hbl]; exact hc1
      have hkn : (k : Int) < (n : Int) := by omega
      have hIr := hI.bel hb
      have hOO := Lib.hid hO
      have HO1 := Lib.hid hO1
      clear hg hl' hc1 hO hO1
      by_cases h0 : m = 0
      · subst h0
        have hns : ns = [] := List.eq_nil_of_length_eq_zero HL.out
        subst hns
        have hb1 : Bel wr (wr.alloc (.cells #[] 3)) := (Bel.refl wr).alloc _
        go_wp2_with (at_builtin; first | (refine wpList_app0I rfl (.tmp 12) (.tmp 16) rfl ⟨wr.heap.size, 0, none⟩ _ _ (by rfl) (by rfl) ?_) | (refine wpList_append_lies _ rfl (.tmp 11) (.tmp 18) 22 rfl w.heap.size 26 i0 _ 1 24 Try.underlying22 hi hz0 hz1 hz2 rfl (by decide) u3 k _ (by rfl) ((ownsRow_bel HO1.out hb1).alloc _) ⟨wr.heap.size + 1, 0, none⟩ 1 1 [.slice (some ⟨wr.heap.size, 0, none⟩) 0 0] (by rfl) rfl (newS _ _ _ _ (by simp)) (oneS _ _ _) (by omega) hX1.out hX2.out (by simp <;> omega) _ rfl ?_; intro g3 cap3 w3 hown3 hgr3 hat3 hlt3))
        have hob : ∀ i, u3.ownBlock = some i → i < wr.heap.size := fun i h => (World.ownsRow.lt HO1.out i h).2
        have hrl : ∀ i, i < k → bs i < wr.heap.size := fun i h => by obtain ⟨_, _, h2⟩ := hOO.out.row i h; exact h2.lt
        have hR := Row.whole wr #[] 3 0 (fun _ => 0) (fun i hi => by omega)
        have hG3 := ((hOO.out.bel hb1).bel ((Bel.refl _).alloc (.cells #[.slice (some ⟨wr.heap.size, 0, none⟩) 0 0] 26))).snoc (g := g3) (cap := cap3) (b := wr.heap.size) (c := 0) (hR.alloc _) (Nat.le_refl _) hbase (fun e => by have := hob _ e; omega) (fun i h e => by have := hrl i h; omega) hown3 hgr3 hat3
        have hB3 := grown_own (w := w) ((hb.trans hb1).alloc _) HO1.out (Nat.le_refl _) hgr3
        have hF := Lib.hid (hG3.congr (f' := ent X) (ls' := lenT X) (fun i h => by
          by_cases e : i = k
          · rw [if_pos e, e, HE.out.1]; exact HL.out
          · rw [if_neg e]) (fun i j h _ => by
          by_cases e : i = k
          · rw [if_pos e, e, HE.out.2]; try rfl
          · rw [if_neg e]))
        clear hown3 hgr3 hat3 hlt3 hob hrl hG3
        go_roundw
        case rel => exact ⟨k + 1, by omega, by go_num, hB3, _, _, hF.out⟩
        case measure => simp [intOf]; omega
      · have hpos : 0 < m := by omega
        have hm1 : m ≤ 100 := by rw [← HL.out]; exact HM.out
        obtain ⟨b1, b2, rfl, hbl1, hnw⟩ := hIr.news (by intro e; rw [e] at HL; have := HL.out; simp at this; omega)
        have hnews : Hid (∀ w', Bel wr w' → ∀ j u, (ns.map fun x => Value.int .i64 x)[j]? = some u → w'.cell? ((⟨b1, b2, none⟩ : Addr).add j) = some u) := by
          intro w' hb' j u hj
          have := hnw j u hj
          rw [Go.Addr.add_mid] at this ⊢
          rw [hb'.use.1 _ _ hbl1]
          exact this
        have hlit : Hid ((wr.alloc (.cells #[] 3)).ownsRow wr.heap.size 3 1 (.slice (some ⟨wr.heap.size, 0, none⟩) 0 0) 0 []) := World.ownsRow_lit wr #[] 0 (Nat.le_refl _) (by unfold maxLen; omega) rfl
        have hX3 := Lib.hid (show 0 + m ≤ maxLen by unfold maxLen; omega)
        have hX4 := Lib.hid (show (0 + m) * 8 ≤ 140737488355328 by omega)
        clear hnw h0 hIr
        go_wp2_with (at_builtin; first | (refine wpList_append_lies _ rfl (.tmp 12) (.tmp 16) 26 rfl wr.heap.size 3 i1 _ 1 8 Try.underlying26 hj hy0 hy1 hy2 rfl (by decide) _ 0 [] (by rfl) hlit.out ⟨b1, b2, none⟩ m c' (ns.map fun x => .int .i64 x) (by rfl) (by rw [List.length_map, HL.out, Nat.mul_one]) (hnews.out _ (by (repeat (first | exact Bel.refl _ | assumption | refine Bel.drew ?_ | refine Bel.drewN ?_ _ | refine Bel.alloc ?_ _ | refine Bel.setCell ?_ (by first | omega | (simp; done) | (simp; omega) | (simp at *; omega)) _ | refine Bel.trans ?_ (by assumption))))) (one_map _) hpos hX3.out hX4.out (by simp) _ rfl ?_; intro g2 cap2 w1; rw [show 0 + m = m from Nat.zero_add m, List.nil_append]; intro hown2 hgr2 hat2 hlt2; have hb1 := grown_own (w := wr) ((Bel.refl wr).alloc _) hlit.out (Nat.le_refl _) hgr2; have HF := Lib.hid (Row.of_own (base := wr.heap.size) hown2); have hs1 := hb1.size; clear hown2 hgr2 hat2 hlt2) | (refine wpList_append_lies _ rfl (.tmp 11) (.tmp 18) 22 rfl w.heap.size 26 i0 _ 1 24 Try.underlying22 hi hz0 hz1 hz2 rfl (by decide) u3 k _ (by rfl) ((ownsRow_bel HO1.out hb1).alloc _) ⟨w1.heap.size, 0, none⟩ 1 1 [.slice (some ⟨g2, 0, none⟩) m cap2] (by rfl) rfl (newS _ _ _ _ rfl) (oneS _ _ _) (by omega) hX1.out hX2.out (by simp <;> omega) _ rfl ?_; intro g3 cap3 w3 hown3 hgr3 hat3 hlt3))
        have hob : ∀ i, u3.ownBlock = some i → i < wr.heap.size := fun i h => (World.ownsRow.lt HO1.out i h).2
        have hrl : ∀ i, i < k → bs i < wr.heap.size := fun i h => by obtain ⟨_, _, h2⟩ := hOO.out.row i h; exact h2.lt
        obtain ⟨r1, r2, hR⟩ := HF.out
        have hG3 := ((hOO.out.bel hb1).bel ((Bel.refl w1).alloc (.cells #[.slice (some ⟨g2, 0, none⟩) m cap2] 26))).snoc (g := g3) (cap := cap3) (b := g2) (c := cap2) (hR.alloc _) r2 (by omega) (fun e => by have := hob _ e; omega) (fun i h e => by have := hrl i h; omega) hown3 hgr3 hat3
        have hB3 := grown_own (w := w) ((hb.trans hb1).alloc _) HO1.out (Nat.le_refl _) hgr3
        have hF := Lib.hid (hG3.congr (f' := ent X) (ls' := lenT X) (fun i h => by
          by_cases e : i = k
          · rw [if_pos e, e, HE.out.1]; exact HL.out
          · rw [if_neg e]) (fun i j h _ => by
          by_cases e : i = k
          · rw [if_pos e, e, HE.out.2]; try rfl
          · rw [if_neg e]))
        clear hown3 hgr3 hat3 hlt3 hob hrl hG3
        go_roundw
        case rel => exact ⟨k + 1, by omega, by go_num, hB3, _, _, hF.out⟩
        case measure => simp [intOf]; omega
    · obtain rfl : k = n := by omega
      go_wp2
      refine bodyPost_ret (v := u3) (by simp [results, Try.results67, go_sem]) rfl ⟨u3, rfl, hb, bs, cs, hO⟩
end Go.Proofs.Ytahkihifgafbnaa
