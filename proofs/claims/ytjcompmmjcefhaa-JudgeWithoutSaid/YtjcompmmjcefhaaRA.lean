/- Records: slices.Clone, and judge.Without, walked. -/
import Derived.Test.YtjcompmmjcefhaaKX
import Derived.Lib.LazyBuf
namespace Go.Proofs.Ytjcompmmjcefhaa
open Go.RowKit

theorem wpList_app0I {ops : Array Oper} {rest : List Oper} {o : Oper} {a : Act} {w : World} {Q : Exit → Act → World → Prop} (hgd : o.guard = none) (s x : Operand)
    (ho : o.op = .call { callee := .builtin .append, args := #[s, x], argTypes := #[23, 23] }) (b0 : Addr) (p : Option Addr) (c : Nat)
    (hs : a.eval s = .slice (some b0) 0 0) (hx : a.eval x = .slice p 0 c) (h : wpList Try.prog ops Q rest (a.put o.dst (.slice (some b0) 0 0)) w) : wpList Try.prog ops Q (o :: rest) a w :=
  wpList_plain hgd fun _ hK => by
    have hr := run_app0I w o.type b0 p c
    unfold Oper.wp execOp
    simp only [ho, resolve, invoke, builtin, Sem.run_bind, Sem.run_pure, Result.andThen_ok, List.map_toArray, List.map_cons, List.map_nil, hs, hx, hr]
    exact hK _ _ h
set_option maxRecDepth 100000 in
set_option maxHeartbeats 400000 in
theorem clone_any (A : Option Addr) (n c : Nat) (ns : List Int) (w : World) (hR : Ints w A ns) (hn : ns.length = n) (hmax : n ≤ 100) :
    Calls Try.prog 55 #[.slice A n c] w (Kept1 w ns) := by
  obtain ⟨i0, hi, hz0, hz1, hz2⟩ := info_parts info1I
  have hnil := fun (w : World) (a : Option Addr) (l c : Nat) => Go.run_eql_slice_nil (P := Try.prog) w 23 3 a l c Try.underlying23
  have Hn := Lib.hid hn
  clear hn
  by_cases h0 : n = 0
  · subst h0
    have hns : ns = [] := List.eq_nil_of_length_eq_zero Hn.out
    subst hns
    rcases A with _ | a
    · go_enter Try.func55, Try.ntmps55
      go_wp2
      go_ret
      exact ⟨none, 0, 0, rfl, rfl, Bel.refl _, .inl rfl, fun b o e => by cases e⟩
    · go_enter Try.func55, Try.ntmps55
      go_wp2_with (at_builtin; go_loud (refine wpList_app0I rfl (.tmp 5) (.tmp 6) rfl ⟨w.heap.size, 0, none⟩ _ _ (by rfl) (by rfl) ?_))
      go_ret
      exact ⟨_, 0, 0, rfl, rfl, by (repeat (first | exact Bel.refl _ | assumption | refine Bel.drew ?_ | refine Bel.drewN ?_ _ | refine Bel.alloc ?_ _ | refine Bel.setCell ?_ (by first | omega | (simp; done) | (simp; omega) | (simp at *; omega)) _ | refine Bel.trans ?_ (by assumption))), .inl rfl, fun b o e => by injection e with e; injection e with e1 e2; subst e1; exact ⟨Nat.le_refl _, by simp⟩⟩
  · have hpos : 0 < n := by omega
    obtain ⟨b1, b2, rfl, hbl1, hnw⟩ := hR.news (by intro e; rw [e] at Hn; have := Hn.out; simp at this; omega)
    have hnews : Hid (∀ w', Bel w w' → ∀ j u, (ns.map fun x => Value.int .i64 x)[j]? = some u → w'.cell? ((⟨b1, b2, none⟩ : Addr).add j) = some u) := by
      intro w' hb' j u hj
      have := hnw j u hj
      rw [Go.Addr.add_mid] at this ⊢
      rw [hb'.use.1 _ _ hbl1]
      exact this
    have hlit : Hid ((w.alloc (.cells #[] 3)).ownsRow w.heap.size 3 1 (.slice (some ⟨w.heap.size, 0, none⟩) 0 0) 0 []) := World.ownsRow_lit w #[] 0 (Nat.le_refl _) (by unfold maxLen; omega) rfl
    have hX3 := Lib.hid (show 0 + n ≤ maxLen by unfold maxLen; omega)
    have hX4 := Lib.hid (show (0 + n) * 8 ≤ 140737488355328 by omega)
    clear hnw h0
    go_enter Try.func55, Try.ntmps55
    go_wp2_with (at_builtin; go_loud (refine wpList_append_lies _ rfl (.tmp 5) (.tmp 6) 23 rfl w.heap.size 3 i0 _ 1 8 Try.underlying23 hi hz0 hz1 hz2 rfl (by decide) _ 0 [] (by rfl) hlit.out ⟨b1, b2, none⟩ n c (ns.map fun x => .int .i64 x) (by rfl) (by rw [List.length_map, Hn.out, Nat.mul_one]) (hnews.out _ (by (repeat (first | exact Bel.refl _ | assumption | refine Bel.drew ?_ | refine Bel.drewN ?_ _ | refine Bel.alloc ?_ _ | refine Bel.setCell ?_ (by first | omega | (simp; done) | (simp; omega) | (simp at *; omega)) _ | refine Bel.trans ?_ (by assumption))))) (one_map _) hpos hX3.out hX4.out (by simp) _ rfl ?_); intro g3 cap3 w3'; rw [show 0 + n = n from Nat.zero_add n, List.nil_append]; intro hown3 hgr3 hat3 hlt3)
    have hB3 := grown_own (w := w) ((Bel.refl w).alloc _) hlit.out (Nat.le_refl _) hgr3
    have hI3 := ints_row hown3
    have hlt := World.ownsRow.lt hown3 g3 rfl
    clear hown3 hgr3 hat3 hlt3
    go_ret
    exact ⟨_, n, _, rfl, Hn.out.symm, hB3, hI3, fun b o e => by injection e with e; injection e with e1 e2; subst e1; exact hlt⟩

/-- The first i answers without the answer k. -/
def woTo (L : List An) (k i : Nat) : List An := (L.take i).eraseIdx k
theorem woTo_zero (L : List An) (k : Nat) : woTo L k 0 = [] := by simp [woTo]
theorem woTo_skip {L : List An} {k : Nat} (hk : k < L.length) : woTo L k (k + 1) = woTo L k k := by
  have h : L[k]? = some L[k] := List.getElem?_eq_getElem hk
  have hl : (L.take k).length = k := by rw [List.length_take]; omega
  unfold woTo
  rw [take_at h, List.eraseIdx_append_of_length_le (by omega), hl, Nat.sub_self, List.eraseIdx_of_length_le (l := L.take k) (by omega)]
  simp
theorem woTo_next {L : List An} {k i : Nat} {a : An} (h : L[i]? = some a) (hne : i ≠ k) : woTo L k (i + 1) = woTo L k i ++ [a] := by
  have hi : i < L.length := (List.getElem?_eq_some_iff.1 h).1
  have hl : (L.take i).length = i := by rw [List.length_take]; omega
  unfold woTo
  rw [take_at h]
  rcases (by omega : i < k ∨ k < i) with h1 | h1
  · rw [List.eraseIdx_of_length_le (by simp [hl]; omega), List.eraseIdx_of_length_le (by omega)]
  · rw [List.eraseIdx_append_of_lt_length (by omega)]
theorem woTo_len (L : List An) (k i : Nat) : (woTo L k i).length ≤ i := by
  unfold woTo
  have := List.length_eraseIdx_le (l := L.take i) (i := k)
  have := List.length_take_le i L
  omega
theorem row_ne {w : World} {base e size n : Nat} {v : Value} {xs : List Value} (h : w.ownsRow base e size v n xs) : v.ownBlock ≠ some w.heap.size := fun e => by have := (World.ownsRow.lt h _ e).2; omega
theorem kept_box {W W3 : World} {row : Option Nat} {b : Nat} {x y : Value} (hg : W.grownBy W3 row) (hne : row ≠ some b) (hb : b < W.heap.size) (h : W.cell? ⟨b, 0, none⟩ = some x ∧ W.cell? ⟨b, 1, none⟩ = some y) : W3.cell? ⟨b, 0, none⟩ = some x ∧ W3.cell? ⟨b, 1, none⟩ = some y := by
  have hbl := hg.block b hb (fun e => hne e.symm)
  exact ⟨(World.cell?_of_block (w := W) (a := ⟨b, 0, none⟩) hbl).trans h.1, (World.cell?_of_block (w := W) (a := ⟨b, 1, none⟩) hbl).trans h.2⟩
def Without (w : World) (L : List An) (e : Ending) (w' : World) : Prop := ∃ A n c, e = .returned (.tuple #[.slice A n c, .int .i64 0]) ∧ n = L.length ∧ Bel w w' ∧ Ans w' A L

set_option maxRecDepth 100000 in
set_option maxHeartbeats 4000000 in
theorem wWithout_ok (g : Int) (A : Option Addr) (n c : Nat) (L : List An) (k : Nat) (w : World) (hR : Ans w A L) (hn : L.length = n) (h12 : n ≤ 12) (hshort : ∀ a ∈ L, a.1.length ≤ 100) (he : errA g L = 0) (hk : k < n) :
    Calls Try.prog 35 #[.int .i64 g, .slice A n c, .int .i64 (k : Int)] w (Without w (L.eraseIdx k)) := by
  obtain ⟨i0, hi, hz0, hz1, hz2⟩ := info_parts info2A
  have Hn := Lib.hid hn
  have HE := Lib.hid he
  have hki : (k : Int) < (n : Int) := by omega
  have hk0 : (0 : Int) ≤ (k : Int) := by omega
  have hn12 : (n : Int) ≤ 12 := by omega
  have hd1 : decide (n ≤ k) = false := decide_eq_false (by omega)
  have hd2 : decide ((k : Int) < 0) = false := decide_eq_false (by omega)
  clear hn he
  go_enter Try.func35, Try.ntmps35
  go_wp2_with fail
  refine (validate_any g A n c L _ hR Hn.out (by unfold maxLen; omega)).mono ?_
  rintro e w1 ⟨rfl, hb1⟩
  rw [HE.out]
  go_wp2
  go_loopw [9, 28] (fun v i wr => ∃ q : Nat, q ≤ n ∧ i = .int .i64 q ∧ Bel w wr ∧ OwnA w.heap.size wr v (woTo L k q)) (fun _ i _ => n - (intOf i).toNat)
  case atStart => exact ⟨0, Nat.zero_le _, rfl, hb1, by rw [woTo_zero]; exact OwnA.nil _ _⟩
  case round =>
    obtain ⟨q, hq, rfl, hb, hO⟩ := hrel
    have hbase : w.heap.size ≤ wr.heap.size := hb.size
    by_cases hlt : q < n
    · obtain ⟨a1, a2, ns, y, A', n', c', rfl, hbl, hg, hc1, hc2, hI, hl', hm'⟩ := (hR.bel hb).at_ (k := q) (by rw [Hn.out]; exact hlt)
      have hsh : n' ≤ 100 := by rw [← hl']; exact hshort _ (List.mem_of_getElem? hg)
      have hqn : (q : Int) < (n : Int) := by omega
      by_cases hqk : q = k
      · have HQ := Lib.hid (show woTo L k (q + 1) = woTo L k q by rw [hqk]; exact woTo_skip (by rw [Hn.out]; omega))
        have hqk2 : ((q : Int) == (k : Int)) = true := by simpa using (show (q : Int) = (k : Int) by omega)
        have hqk3 : (q == k) = true := by simpa using hqk
        clear hg hl' hqk
        go_wp2
        go_roundw
        case rel => exact ⟨q + 1, by omega, by go_num, by (repeat (first | exact Bel.refl _ | assumption | refine Bel.drew ?_ | refine Bel.drewN ?_ _ | refine Bel.alloc ?_ _ | refine Bel.setCell ?_ (by first | omega | (simp; done) | (simp; omega) | (simp at *; omega)) _ | refine Bel.trans ?_ (by assumption))), by rw [HQ.out]; exact hO.bel (by (repeat (first | exact Bel.refl _ | assumption | refine Bel.drew ?_ | refine Bel.drewN ?_ _ | refine Bel.alloc ?_ _ | refine Bel.setCell ?_ (by first | omega | (simp; done) | (simp; omega) | (simp at *; omega)) _ | refine Bel.trans ?_ (by assumption))))⟩
        case measure => simp [intOf]; omega
      · have HQ := Lib.hid (woTo_next hg hqk)
        have hqk2 : ((q : Int) == (k : Int)) = false := by simpa using (fun e : (q : Int) = (k : Int) => hqk (by omega))
        have hqk3 : (q == k) = false := by simpa using hqk
        have HL := Lib.hid hl'; have HM := Lib.hid hm'
        obtain ⟨vs, hO⟩ := hO
        have hwl := woTo_len L k q
        obtain ⟨X, hX⟩ : ∃ X, X = woTo L k q := ⟨_, rfl⟩
        rw [← hX] at hO hwl
        have HX := Lib.hid hX
        have hX1 := Lib.hid (show X.length + 1 ≤ maxLen by unfold maxLen; omega)
        have hX2 := Lib.hid (show (X.length + 1) * 32 ≤ 140737488355328 by omega)
        have Held := Lib.hid (fun w' (h : Bel (wr.alloc (.cells #[.slice A' n' c', .bool y] 25)) w') => box_an h)
        obtain ⟨wo, hwo⟩ : ∃ wo : World, wo = wr := ⟨_, rfl⟩
        subst hwo
        clear hg hl' hqk hX hm'
        have hb0 : Bel wo (wo.alloc (.cells #[.slice A' n' c', .bool y] 25)) := (Bel.refl wo).alloc _
        obtain ⟨d0, d1⟩ := Held.out _ (Bel.refl _)
        go_wp2
        go_region_held_law (fun w' => Bel w w' ∧ w'.cell? ⟨wo.heap.size, 0, none⟩ = some (.slice A' n' c') ∧ w'.cell? ⟨wo.heap.size, 1, none⟩ = some (.bool y)) (first | exact ⟨hB9, hK9⟩ | exact ⟨by (repeat (first | exact Bel.refl _ | assumption | refine Bel.drew ?_ | refine Bel.drewN ?_ _ | refine Bel.alloc ?_ _ | refine Bel.setCell ?_ (by first | omega | (simp; done) | (simp; omega) | (simp at *; omega)) _ | refine Bel.trans ?_ (by assumption))), Held.out _ (by (repeat (first | exact Bel.refl _ | assumption | refine Bel.drew ?_ | refine Bel.drewN ?_ _ | refine Bel.alloc ?_ _ | refine Bel.setCell ?_ (by first | omega | (simp; done) | (simp; omega) | (simp at *; omega)) _ | refine Bel.trans ?_ (by assumption))))⟩)
          (first
            | (go_at_call 55; refine (clone_any A' n' c' ns _ (hI.bel (by (repeat (first | exact Bel.refl _ | assumption | refine Bel.drew ?_ | refine Bel.drewN ?_ _ | refine Bel.alloc ?_ _ | refine Bel.setCell ?_ (by first | omega | (simp; done) | (simp; omega) | (simp at *; omega)) _ | refine Bel.trans ?_ (by assumption))))) HL.out hsh).mono ?_; rintro e w2 ⟨A2, n2, c2, rfl, hn2, hb2, hI2, hf2⟩; have HN2 := Lib.hid hn2; clear hn2)
            | (refine step_append_lies _ rfl (.tmp 36) (.tmp 43) 22 rfl w.heap.size 25 i0 _ 2 32 Try.underlying22 hi hz0 hz1 hz2 rfl (by decide) u9 X.length vs (by rfl) ((ownsRow_bel hO.own (hb0.drew.trans hb2)).alloc _) ⟨w2.heap.size, 0, none⟩ 1 1 [.slice A2 n2 c2, .bool y] (by rfl) rfl (new2 _ _ _ _ _ rfl) (one2 _ _ _ _) (by omega) hX1.out hX2.out (by have := hb2.size; simp at this ⊢; omega) _ rfl ?_; intro g3 cap3 w3 hown3 hgr3 hat3 hlt3; have hB9 := grown_own (w := w) ((hb.trans (hb0.drew.trans hb2)).alloc _) hO.own (Nat.le_refl _) hgr3; have hK9 := kept_box hgr3 (row_ne hO.own) (by have := hb2.size; simp at this ⊢; omega) (Held.out _ (((Bel.refl _).drew.trans hb2).alloc _))))
        all_goals
          have hO3 := OwnV.snoc (g := g3) (ns := ns) (y := y) (A' := A2) (n' := n2) (c' := c2) ((hO.bel (hb0.drew.trans hb2)).bel ((Bel.refl w2).alloc _)) (hI2.bel ((Bel.refl w2).alloc _)) HN2.out.symm (by rw [HN2.out, HL.out]; exact HM.out) (fun b o e => by
            have h1 := hf2 b o e
            simp at h1
            exact ⟨by simp; omega, fun e2 => by have h3 := (World.ownsRow.lt hO.own _ e2).2; omega⟩) hown3 hgr3 (by simpa using hat3)
          have HO3 := Lib.hid hO3
          clear hown3 hgr3 hat3 hlt3 hO3
          go_wp2
          go_roundw
          case rel => exact ⟨q + 1, by omega, by go_num, hB9, by rw [HQ.out, ← HX.out]; exact HO3.out⟩
          case measure => simp [intOf]; omega
    · obtain rfl : q = n := by omega
      obtain ⟨A9, n9, c9, rfl, hn9, hA9⟩ := hO.form
      have e9 : woTo L k q = L.eraseIdx k := by unfold woTo; rw [List.take_of_length_le (by rw [Hn.out]; omega)]
      rw [e9] at hn9 hA9
      have HN9 := Lib.hid hn9
      clear hn9 e9 hO
      go_wp2
      go_ret2
      exact ⟨A9, n9, c9, rfl, HN9.out, hb, hA9⟩
end Go.Proofs.Ytjcompmmjcefhaa
