/- The document's Copy, walked. -/
import Derived.Test.YtcndmfkbfimllaaBI
import Derived.Deep.RegionLaw
namespace Go.Proofs.Ytcndmfkbfimllaa
open Go.RowKit Go.Maps

theorem run_app0F (W : World) (ty : TypeId) (b0 : Addr) (p : Option Addr) (c : Nat) :
    (Builtin.append_ #[22, 22] ty #[.slice (some b0) 0 0, .slice p 0 c]).run Try.prog W = .ok (.slice (some b0) 0 0) W := by
  obtain ⟨i, hi, _⟩ := Option.map_eq_some_iff.1 info2F
  cases p <;> simp [Builtin.append_, run_underlying Try.underlying22, sizeOf, typeInfo, hi, Builtin.lenOf, Builtin.firstCells, loadCells, loadCellsFrom, storeCells]
theorem step_app0F {ops : Array Oper} {o : Oper} {a : Act} {w : World} {K : Act → World → Prop} {Q : Exit → Act → World → Prop} {E : Prop} (hgd : o.guard = none) (s x : Operand)
    (ho : o.op = .call { callee := .builtin .append, args := #[s, x], argTypes := #[22, 22] }) (b0 : Addr) (p : Option Addr) (c : Nat)
    (hs : a.eval s = .slice (some b0) 0 0) (hx : a.eval x = .slice p 0 c) (h : K (a.put o.dst (.slice (some b0) 0 0)) w) :
    if Region.wanted o (yielded ops a.tmps) = true then Oper.wp Try.prog o a w K Q else E := by
  have hw : Region.wanted o (yielded ops a.tmps) = true := by simp [Region.wanted, hgd]
  rw [if_pos hw]
  have hr := run_app0F w o.type b0 p c
  unfold Oper.wp execOp
  simp only [ho, resolve, invoke, builtin, Sem.run_bind, Sem.run_pure, Result.andThen_ok, List.map_toArray, List.map_cons, List.map_nil, hs, hx, hr]
  exact h

set_option maxRecDepth 100000 in
set_option maxHeartbeats 1000000 in
theorem rCopy_any (p : Int) (A : Option Addr) (n c : Nat) (F : List (Int × Int)) (w : World) (hR : Prs w A F) (hn : F.length = n) (hmax : n ≤ 1000) :
    Calls Try.prog 71 #[.agg #[.int .i64 p, .slice A n c]] w (ShopOnly w p F) := by
  obtain ⟨i0, hi, hz0, hz1, hz2⟩ := info_parts info2F
  obtain ⟨W, hW⟩ : ∃ W, W = (w.alloc (.cells #[.int .i64 p, .slice A n c] 24)).alloc (.cells #[.int .i64 0, .slice none 0 0] 24) := ⟨_, rfl⟩
  have hbW : Bel w W := by rw [hW]; (repeat (first | exact Bel.refl _ | assumption | refine Bel.drew ?_ | refine Bel.drewN ?_ _ | refine Bel.alloc ?_ _ | refine Bel.setCell ?_ (by first | omega | (simp; done) | (simp; omega) | (simp at *; omega)) _ | refine Bel.trans ?_ (by assumption)))
  have hsW : W.heap.size = w.heap.size + 1 + 1 := by rw [hW]; simp
  have r0 : W.cell? ⟨w.heap.size + 1, 0, none⟩ = some (.int .i64 0) := by rw [hW]; go_simp
  have r1 : W.cell? ⟨w.heap.size + 1, 1, none⟩ = some (.slice none 0 0) := by rw [hW]; go_simp
  have d0 : W.cell? ⟨w.heap.size, 0, none⟩ = some (.int .i64 p) := by rw [hW]; go_simp
  have d1 : W.cell? ⟨w.heap.size, 1, none⟩ = some (.slice A n c) := by rw [hW]; go_simp
  have rf0 : W.frozen? ⟨w.heap.size + 1, 0, none⟩ = false := by rw [hW]; go_simp
  have rf1 : W.frozen? ⟨w.heap.size + 1, 1, none⟩ = false := by rw [hW]; go_simp
  have Kept := Lib.hid (fun w' (h : Bel W w') => show (w'.cell? ⟨w.heap.size + 1, 0, none⟩ = some (.int .i64 0) ∧ w'.cell? ⟨w.heap.size + 1, 1, none⟩ = some (.slice none 0 0)) ∧ (w'.cell? ⟨w.heap.size, 0, none⟩ = some (.int .i64 p) ∧ w'.cell? ⟨w.heap.size, 1, none⟩ = some (.slice A n c)) ∧ w'.frozen? ⟨w.heap.size + 1, 0, none⟩ = false ∧ w'.frozen? ⟨w.heap.size + 1, 1, none⟩ = false ∧ w.heap.size + 1 < w'.heap.size from by
    have := h.size
    refine ⟨⟨?_, ?_⟩, ⟨?_, ?_⟩, ?_, ?_, by omega⟩
    · rw [h.use.1 _ _ (by omega)]; exact r0
    · rw [h.use.1 _ _ (by omega)]; exact r1
    · rw [h.use.1 _ _ (by omega)]; exact d0
    · rw [h.use.1 _ _ (by omega)]; exact d1
    · rw [h.use.2.1 _ _ (by omega)]; exact rf0
    · rw [h.use.2.1 _ _ (by omega)]; exact rf1)
  have hsz0 : w.heap.size < W.heap.size := by omega
  have hsz1 : w.heap.size + 1 < W.heap.size := by omega
  have HW := Lib.hid hW
  have HSW := Lib.hid hsW
  have HBW := Lib.hid hbW
  rcases Nat.eq_zero_or_pos n with h0 | hpos
  · subst h0
    obtain rfl := List.eq_nil_of_length_eq_zero hn
    clear hW hsW
    go_enter Try.func71, Try.ntmps71
    go_wp2
    rw [← HW.out]
    go_region_law (first | (refine step_app0F rfl (.tmp 5) (.tmp 7) rfl ⟨W.heap.size, 0, none⟩ _ _ (by rfl) (by rfl) ?_))
    all_goals
      go_wp2
      obtain ⟨q0, q1⟩ := stored2 (x := .int .i64 p) (y := .slice (some ⟨W.heap.size, 0, none⟩) 0 0) r0 r1
      have hb9 : Bel ((W.setCell ⟨w.heap.size + 1, 0, none⟩ (.int .i64 p)).setCell ⟨w.heap.size + 1, 1, none⟩ (.slice (some ⟨W.heap.size, 0, none⟩) 0 0)) ((((W.setCell ⟨w.heap.size + 1, 0, none⟩ (.int .i64 p)).setCell ⟨w.heap.size + 1, 1, none⟩ (.slice (some ⟨W.heap.size, 0, none⟩) 0 0)).alloc (.cells #[] 45)).drew) := by (repeat (first | exact Bel.refl _ | assumption | refine Bel.drew ?_ | refine Bel.drewN ?_ _ | refine Bel.alloc ?_ _ | refine Bel.setCell ?_ (by first | omega | (simp; done) | (simp; omega) | (simp at *; omega)) _ | refine Bel.trans ?_ (by assumption)))
      have s0 := (hb9.use.1 _ _ (by rw [setCell_size, setCell_size]; omega)).trans q0
      have s1 := (hb9.use.1 _ _ (by rw [setCell_size, setCell_size]; omega)).trans q1
      refine bodyPost_ret (v := .agg #[.int .i64 p, .slice (some ⟨W.heap.size, 0, none⟩) 0 0]) (by first | (simp [results, Try.results71, go_sem, s0, s1]; done) | (simp [results, Try.results71, go_sem, s0, s1, q0, q1, hsz1])) rfl ⟨some ⟨W.heap.size, 0, none⟩, 0, 0, rfl, rfl, by have := HBW.out; (repeat (first | exact Bel.refl _ | assumption | refine Bel.drew ?_ | refine Bel.drewN ?_ _ | refine Bel.alloc ?_ _ | refine Bel.setCell ?_ (by first | omega | (simp; done) | (simp; omega) | (simp at *; omega)) _ | refine Bel.trans ?_ (by assumption))), .inl rfl, fun b o e => ?_⟩
      injection e with e
      injection e with e1
      subst e1
      have := HSW.out
      exact ⟨by omega, by simp [World.setCell]⟩
  · have hA : ∃ b o, A = some ⟨b, o, none⟩ ∧ b < w.heap.size := by
      rcases hR with h | ⟨b, o, h, hl, -⟩
      · subst h; simp at hn; omega
      · exact ⟨b, o, h, hl⟩
    obtain ⟨b, o, rfl, hbl⟩ := hA
    have Hc := Lib.hid (fun w' (h : Bel w w') => prs_cells (hR.bel h))
    have Hl := Lib.hid (show (cel2 F).length = n * 2 by rw [cel2_length, hn])
    have HC := Lib.hid hn
    have H63 := Lib.hid (show 0 + n ≤ maxLen by unfold maxLen; omega)
    have Hby := Lib.hid (show (0 + n) * 16 ≤ 140737488355328 by omega)
    have HLit := Lib.hid (World.ownsRow_lit (e := 45) (size := 2) W #[] 0 (Nat.le_refl _) (by unfold maxLen; omega) rfl)
    clear hW hsW hn
    go_enter Try.func71, Try.ntmps71
    go_wp2
    rw [← HW.out]
    go_region_law (first | (refine step_append_lies _ rfl (.tmp 5) (.tmp 7) 22 rfl W.heap.size 45 i0 _ 2 16 Try.underlying22 hi hz0 hz1 hz2 rfl (by decide) _ 0 [] (by rfl) (ownsRow_bel HLit.out (by (repeat (first | exact Bel.refl _ | assumption | refine Bel.drew ?_ | refine Bel.drewN ?_ _ | refine Bel.alloc ?_ _ | refine Bel.setCell ?_ (by first | omega | (simp; done) | (simp; omega) | (simp at *; omega)) _ | refine Bel.trans ?_ (by assumption))))) ⟨b, o, none⟩ n c (cel2 F) (by rfl) Hl.out (Hc.out _ (by have := HBW.out; (repeat (first | exact Bel.refl _ | assumption | refine Bel.drew ?_ | refine Bel.drewN ?_ _ | refine Bel.alloc ?_ _ | refine Bel.setCell ?_ (by first | omega | (simp; done) | (simp; omega) | (simp at *; omega)) _ | refine Bel.trans ?_ (by assumption))))) (cel2_one F) hpos H63.out Hby.out (by simp) _ rfl ?_; intro g3 cap3 w3; rw [show 0 + n = n from Nat.zero_add n, List.nil_append]; intro hown3 hgr3 hat3 hlt3; have hB3 : Bel W w3 := grown_own (w := W) (by (repeat (first | exact Bel.refl _ | assumption | refine Bel.drew ?_ | refine Bel.drewN ?_ _ | refine Bel.alloc ?_ _ | refine Bel.setCell ?_ (by first | omega | (simp; done) | (simp; omega) | (simp at *; omega)) _ | refine Bel.trans ?_ (by assumption)))) HLit.out (Nat.le_refl _) hgr3; obtain ⟨⟨k0, k1⟩, ⟨k2, k3⟩, k4, k5, k6⟩ := Kept.out _ hB3))
    all_goals
      go_wp2
      obtain ⟨q0, q1⟩ := stored2 (x := .int .i64 p) (y := .slice (some ⟨g3, 0, none⟩) n cap3) k0 k1
      have hlt := World.ownsRow.lt hown3 g3 rfl
      have hP : Prs w3 (some ⟨g3, 0, none⟩) F := prs_of_own (base := W.heap.size) (e := 45) (n := n) (c := cap3) (by rw [HC.out]; exact hown3)
      have := HSW.out
      refine bodyPost_ret (v := .agg #[.int .i64 p, .slice (some ⟨g3, 0, none⟩) n cap3]) (by simp [results, Try.results71, go_sem, q0, q1]) rfl ⟨some ⟨g3, 0, none⟩, n, cap3, rfl, HC.out.symm, by have := HBW.out; (repeat (first | exact Bel.refl _ | assumption | refine Bel.drew ?_ | refine Bel.drewN ?_ _ | refine Bel.alloc ?_ _ | refine Bel.setCell ?_ (by first | omega | (simp; done) | (simp; omega) | (simp at *; omega)) _ | refine Bel.trans ?_ (by assumption))), ?_, fun b o e => ?_⟩
      · refine (hP.far (fun b o e => ?_) _).far (fun b o e => ?_) _ <;> (injection e with e; injection e with e1; subst e1; simp; omega)
      · injection e with e
        injection e with e1
        subst e1
        exact ⟨by omega, by rw [setCell_size, setCell_size]; exact hlt.2⟩
end Go.Proofs.Ytcndmfkbfimllaa
