/- Records: the document's Copy. -/
import Derived.Test.YtmamigelifadmaaKV
namespace Go.Proofs.Ytmamigelifadmaa
open Go.RowKit

theorem run_app0I (W : World) (ty : TypeId) (b0 : Addr) (p : Option Addr) (c : Nat) :
    (Builtin.append_ #[26, 26] ty #[.slice (some b0) 0 0, .slice p 0 c]).run Try.prog W = .ok (.slice (some b0) 0 0) W := by
  obtain ⟨i, hi, _⟩ := Option.map_eq_some_iff.1 info1I
  cases p <;> simp [Builtin.append_, run_underlying Try.underlying26, sizeOf, typeInfo, hi, Builtin.lenOf, Builtin.firstCells, loadCells, loadCellsFrom, storeCells]
/-- An append of no integer, at a step of a region that draws. -/
theorem step_app0I {ops : Array Oper} {o : Oper} {a : Act} {w : World} {K : Act → World → Prop} {Q : Exit → Act → World → Prop} {E : Prop} (hgd : o.guard = none) (s x : Operand)
    (ho : o.op = .call { callee := .builtin .append, args := #[s, x], argTypes := #[26, 26] }) (b0 : Addr) (p : Option Addr) (c : Nat)
    (hs : a.eval s = .slice (some b0) 0 0) (hx : a.eval x = .slice p 0 c) (h : K (a.put o.dst (.slice (some b0) 0 0)) w) :
    if Region.wanted o (yielded ops a.tmps) = true then Oper.wp Try.prog o a w K Q else E := by
  have hw : Region.wanted o (yielded ops a.tmps) = true := by simp [Region.wanted, hgd]
  rw [if_pos hw]
  have hr := run_app0I w o.type b0 p c
  unfold Oper.wp execOp
  simp only [ho, resolve, invoke, builtin, Sem.run_bind, Sem.run_pure, Result.andThen_ok, List.map_toArray, List.map_cons, List.map_nil, hs, hx, hr]
  exact h
theorem Ints.news {w : World} {A : Option Addr} {ns : List Int} (h : Ints w A ns) (hne : ns ≠ []) : ∃ b o, A = some ⟨b, o, none⟩ ∧ b < w.heap.size ∧ ∀ j u, (ns.map fun x => Value.int .i64 x)[j]? = some u → w.cell? ((⟨b, o, none⟩ : Addr).add j) = some u := by
  rcases h with h | ⟨b, o, rfl, hl, hc⟩
  · exact absurd h hne
  · refine ⟨b, o, rfl, hl, fun j u hj => ?_⟩
    simp only [List.getElem?_map, Option.map_eq_some_iff] at hj
    obtain ⟨v, hv, rfl⟩ := hj
    rw [Go.Addr.add_mid]
    exact hc j v hv
theorem one_map (ns : List Int) : ∀ u ∈ ns.map (fun x => Value.int .i64 x), u.oneCell' = true := by
  intro u hu
  obtain ⟨v, _, rfl⟩ := List.mem_map.1 hu
  rfl
/-- A row of integers in memory, as it is read. -/
theorem ints_row {w : World} {base e g n cap : Nat} {ns : List Int} (h : w.ownsRow base e 1 (.slice (some ⟨g, 0, none⟩) n cap) n (ns.map fun x => .int .i64 x)) : Ints w (some ⟨g, 0, none⟩) ns := by
  have hlt := (World.ownsRow.lt h g rfl).2
  have hc := World.ownsRow.cells (g := g) h rfl
  refine .inr ⟨g, 0, rfl, hlt, fun j v hj => ?_⟩
  have := hc j (.int .i64 v) (by rw [List.getElem?_map, hj]; rfl)
  rw [Go.Addr.add_mid] at this
  exact this
def Copied (w : World) (L : List An) (e : Ending) (w' : World) : Prop := ∃ v, e = .returned v ∧ OwnA w.heap.size w' v L ∧ Bel w w' ∧ w.heap.size ≤ w'.heap.size

set_option maxRecDepth 100000 in
set_option maxHeartbeats 4000000 in
theorem rCopy_any (A : Option Addr) (n c : Nat) (L : List An) (w : World) (hR : Ans w A L) (hn : L.length = n) (h12 : n ≤ 100) (hshort : ∀ a ∈ L, a.1.length ≤ 100) :
    Calls Try.prog 13 #[.slice A n c] w (Copied w L) := by
  obtain ⟨i0, hi, hz0, hz1, hz2⟩ := info_parts info2A
  obtain ⟨i1, hj, hj0, hj1, hj2⟩ := info_parts info1I
  have Hn := Lib.hid hn
  clear hn
  go_enter Try.func13, Try.ntmps13
  go_wp2
  go_loopw [3, 4] (fun v i wr => ∃ k : Nat, k ≤ n ∧ i = .int .i64 k ∧ Bel w wr ∧ OwnA w.heap.size wr v (L.take k) ∧ w.heap.size ≤ wr.heap.size) (fun _ i _ => n - (intOf i).toNat)
  case atStart => exact ⟨0, Nat.zero_le _, rfl, Bel.refl _, OwnA.nil _ _, Nat.le_refl _⟩
  case round =>
    obtain ⟨k, hk, rfl, hb, hO, hbase⟩ := hrel
    by_cases hlt : k < n
    · obtain ⟨a1, a2, ns, y, A', n', c', rfl, hbl, hg, hc1, hc2, hI, hl', hm'⟩ := hR.at_ (k := k) (by rw [Hn.out]; exact hlt)
      have hsh : n' ≤ 100 := by rw [← hl']; exact hshort _ (List.mem_of_getElem? hg)
      obtain ⟨vs, hO⟩ := hO
      have hlen : (L.take k).length = k := by rw [List.length_take, Hn.out]; omega
      have hO1 := hO.own
      rw [hlen] at hO1
      have hX1 := Lib.hid (show k + 1 ≤ maxLen by unfold maxLen; omega)
      have hX2 := Lib.hid (show (k + 1) * 32 ≤ 140737488355328 by omega)
      have hX3 := Lib.hid (show 0 + n' ≤ maxLen by unfold maxLen; omega)
      have hX4 := Lib.hid (show (0 + n') * 8 ≤ 140737488355328 by omega)
      have HG := Lib.hid hg
      have HL := Lib.hid hl'
      have HM := Lib.hid hm'
      have held : ∀ w', Bel w w' → w'.cell? ⟨a1, a2 + k * 2, none⟩ = some (.slice A' n' c') ∧ w'.cell? ⟨a1, a2 + k * 2 + 1, none⟩ = some (.bool y) := fun w' h => ⟨by rw [h.use.1 _ _ hbl]; exact hc1, by rw [h.use.1 _ _ hbl]; exact hc2⟩
      have Held := Lib.hid held
      obtain ⟨wo, hwo⟩ : ∃ wo : World, wo = wr := ⟨_, rfl⟩
      subst hwo
      clear hg hl' held hc1 hc2 hm'
      by_cases h0 : n' = 0
      · subst h0
        go_wp2
        go_region_held_law (fun w' => Bel w w' ∧ w'.cell? ⟨a1, a2 + k * 2, none⟩ = some (.slice A' 0 c') ∧ w'.cell? ⟨a1, a2 + k * 2 + 1, none⟩ = some (.bool y)) (first | (have hB9 := grown_own (w := w) ((hb.alloc _).alloc _).drew hO1 (Nat.le_refl _) hgr3; exact ⟨hB9, Held.out _ hB9⟩) | exact ⟨by (repeat (first | exact Bel.refl _ | assumption | refine Bel.drew ?_ | refine Bel.drewN ?_ _ | refine Bel.alloc ?_ _ | refine Bel.setCell ?_ (by first | omega | (simp; done) | (simp; omega) | (simp at *; omega)) _ | refine Bel.trans ?_ (by assumption))), Held.out _ (by (repeat (first | exact Bel.refl _ | assumption | refine Bel.drew ?_ | refine Bel.drewN ?_ _ | refine Bel.alloc ?_ _ | refine Bel.setCell ?_ (by first | omega | (simp; done) | (simp; omega) | (simp at *; omega)) _ | refine Bel.trans ?_ (by assumption))))⟩)
          (first | (refine step_app0I rfl (.tmp 12) (.tmp 17) rfl ⟨wo.heap.size, 0, none⟩ _ _ (by rfl) (by rfl) ?_) | (refine step_append_lies _ rfl (.tmp 11) (.tmp 25) 22 rfl w.heap.size 31 i0 _ 2 32 Try.underlying22 hi hz0 hz1 hz2 rfl (by decide) u3 k vs (by rfl) ((ownsRow_bel hO1 ((Bel.refl wo).alloc _)).alloc _) ⟨wo.heap.size + 1, 0, none⟩ 1 1 [.slice (some ⟨wo.heap.size, 0, none⟩) 0 0, .bool y] (by rfl) rfl (new2 _ _ _ _ _ (by simp)) (one2 _ _ _ _) (by omega) hX1.out hX2.out (Nat.le_trans hbase (by simp <;> omega)) _ rfl ?_; intro g3 cap3 w3 hown3 hgr3 hat3 hlt3))
        all_goals
          have hB3 := grown_own (w := w) ((hb.alloc _).alloc _).drew hO1 (Nat.le_refl _) hgr3
          have hns : ns = [] := List.eq_nil_of_length_eq_zero HL.out
          have hO3 := OwnV.snoc (g := g3) (ns := ns) (A' := some ⟨wo.heap.size, 0, none⟩) (n' := 0) (c' := 0) (hO.bel (((Bel.refl wo).alloc _).alloc _).drew) (.inl hns) HL.out (by unfold maxLen; omega) (fun b o hA => by injection hA with hA; injection hA with e1 e2; subst e1; exact ⟨by simp; omega, fun e => by have h1 := (World.ownsRow.lt hO1 _ e).2; omega⟩) (by rw [hlen]; exact hown3) hgr3 (by simpa using hat3)
          rw [hlen] at hO3
          have hs3 : w.heap.size ≤ w3.heap.size := hB3.size
          have HS : Hid (L.take (k + 1) = L.take k ++ [(ns, y)]) := by show _ = _; rw [take_at HG.out]
          clear hown3 hgr3 hat3 hlt3 hO hO1 hns
          go_wp2
          go_roundw
          case rel => exact ⟨k + 1, by omega, by go_num, hB3, by rw [HS.out]; exact hO3, hs3⟩
          case measure => simp [intOf]; omega
      · have hpos : 0 < n' := by omega
        obtain ⟨b1, b2, rfl, hbl1, hnw⟩ := hI.news (by intro e; rw [e] at HL; have := HL.out; simp at this; omega)
        have hnews : Hid (∀ w', Bel w w' → ∀ j u, (ns.map fun x => Value.int .i64 x)[j]? = some u → w'.cell? ((⟨b1, b2, none⟩ : Addr).add j) = some u) := by
          intro w' hb' j u hj
          have := hnw j u hj
          rw [Go.Addr.add_mid] at this ⊢
          rw [hb'.use.1 _ _ hbl1]
          exact this
        have hlit : Hid ((wo.alloc (.cells #[] 3)).ownsRow wo.heap.size 3 1 (.slice (some ⟨wo.heap.size, 0, none⟩) 0 0) 0 []) := World.ownsRow_lit wo #[] 0 (Nat.le_refl _) (by unfold maxLen; omega) rfl
        clear hnw
        go_wp2
        go_region_held_law (fun w' => Bel w w' ∧ w'.cell? ⟨a1, a2 + k * 2, none⟩ = some (.slice (some ⟨b1, b2, none⟩) n' c') ∧ w'.cell? ⟨a1, a2 + k * 2 + 1, none⟩ = some (.bool y)) (first | (have hB9 := grown_own (w := w) ((hb.trans hB2).alloc _) hO1 (Nat.le_refl _) hgr3; exact ⟨hB9, Held.out _ hB9⟩) | (have hB2' := hb.trans hB2; exact ⟨hB2', Held.out _ hB2'⟩) | exact ⟨by (repeat (first | exact Bel.refl _ | assumption | refine Bel.drew ?_ | refine Bel.drewN ?_ _ | refine Bel.alloc ?_ _ | refine Bel.setCell ?_ (by first | omega | (simp; done) | (simp; omega) | (simp at *; omega)) _ | refine Bel.trans ?_ (by assumption))), Held.out _ (by (repeat (first | exact Bel.refl _ | assumption | refine Bel.drew ?_ | refine Bel.drewN ?_ _ | refine Bel.alloc ?_ _ | refine Bel.setCell ?_ (by first | omega | (simp; done) | (simp; omega) | (simp at *; omega)) _ | refine Bel.trans ?_ (by assumption))))⟩)
          (first | (refine step_append_lies _ rfl (.tmp 12) (.tmp 17) 26 rfl wo.heap.size 3 i1 _ 1 8 Try.underlying26 hj hj0 hj1 hj2 rfl (by decide) _ 0 [] (by rfl) (ownsRow_bel hlit.out (by (repeat (first | exact Bel.refl _ | assumption | refine Bel.drew ?_ | refine Bel.drewN ?_ _ | refine Bel.alloc ?_ _ | refine Bel.setCell ?_ (by first | omega | (simp; done) | (simp; omega) | (simp at *; omega)) _ | refine Bel.trans ?_ (by assumption))))) ⟨b1, b2, none⟩ n' c' (ns.map fun x => .int .i64 x) (by rfl) (by rw [List.length_map, HL.out, Nat.mul_one]) (hnews.out _ (by (repeat (first | exact Bel.refl _ | assumption | refine Bel.drew ?_ | refine Bel.drewN ?_ _ | refine Bel.alloc ?_ _ | refine Bel.setCell ?_ (by first | omega | (simp; done) | (simp; omega) | (simp at *; omega)) _ | refine Bel.trans ?_ (by assumption))))) (one_map _) hpos hX3.out hX4.out (by simp) _ rfl ?_; intro g2 cap2 w2; rw [show 0 + n' = n' from Nat.zero_add n', List.nil_append]; intro hown2 hgr2 hat2 hlt2; have hB2 := grown_own (w := wo) (by (repeat (first | exact Bel.refl _ | assumption | refine Bel.drew ?_ | refine Bel.drewN ?_ _ | refine Bel.alloc ?_ _ | refine Bel.setCell ?_ (by first | omega | (simp; done) | (simp; omega) | (simp at *; omega)) _ | refine Bel.trans ?_ (by assumption)))) hlit.out (Nat.le_refl _) hgr2) | (refine step_append_lies _ rfl (.tmp 11) (.tmp 25) 22 rfl w.heap.size 31 i0 _ 2 32 Try.underlying22 hi hz0 hz1 hz2 rfl (by decide) u3 k vs (by rfl) ((ownsRow_bel hO1 hB2).alloc _) ⟨w2.heap.size, 0, none⟩ 1 1 [.slice (some ⟨g2, 0, none⟩) n' cap2, .bool y] (by rfl) rfl (new2 _ _ _ _ _ (by simp)) (one2 _ _ _ _) (by omega) hX1.out hX2.out (by have := hB2.size; simp; omega) _ rfl ?_; intro g3 cap3 w3 hown3 hgr3 hat3 hlt3))
        all_goals
          have hB3 := grown_own (w := w) ((hb.trans hB2).alloc _) hO1 (Nat.le_refl _) hgr3
          have hI2 := ints_row hown2
          obtain ⟨hg1, hg2⟩ := World.ownsRow.lt hown2 g2 rfl
          have hO3 := OwnV.snoc (g := g3) (ns := ns) (A' := some ⟨g2, 0, none⟩) (n' := n') (c' := cap2) ((hO.bel hB2).bel ((Bel.refl w2).alloc _)) (hI2.bel ((Bel.refl w2).alloc _)) HL.out HM.out (fun b o hA => by injection hA with hA; injection hA with e1 e2; subst e1; exact ⟨by simp; omega, fun e => by have h1 := (World.ownsRow.lt hO1 _ e).2; omega⟩) (by rw [hlen]; exact hown3) hgr3 (by simpa using hat3)
          rw [hlen] at hO3
          have hs3 : w.heap.size ≤ w3.heap.size := hB3.size
          have HS : Hid (L.take (k + 1) = L.take k ++ [(ns, y)]) := by show _ = _; rw [take_at HG.out]
          clear hown2 hgr2 hat2 hlt2 hown3 hgr3 hat3 hlt3 hO hO1 hI2 hB2
          go_wp2
          go_roundw
          case rel => exact ⟨k + 1, by omega, by go_num, hB3, by rw [HS.out]; exact hO3, hs3⟩
          case measure => simp [intOf]; omega
    · obtain rfl : k = n := by omega
      have ht : L.take k = L := List.take_of_length_le (by rw [Hn.out]; omega)
      rw [ht] at hO
      have HO := Lib.hid hO
      clear hO ht
      go_wp2
      go_ret
      exact ⟨_, rfl, HO.out, hb, hbase⟩
end Go.Proofs.Ytmamigelifadmaa

