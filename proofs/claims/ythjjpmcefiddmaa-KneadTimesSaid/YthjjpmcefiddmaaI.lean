/- Clone of a batch, the program's Fold; the document's goes, along, fold, unfold, its checks, One, UnOne, Fold, Unfold. -/
import Derived.Test.YthjjpmcefiddmaaH
import Derived.Lib.LazyBuf
namespace Go.Proofs.Ythjjpmcefiddmaa
open Go.RowKit

attribute [local go_sem] Oper.semAt_some

theorem wpList_app0I {ops : Array Oper} {rest : List Oper} {o : Oper} {a : Act} {w : World} {Q : Exit → Act → World → Prop} (hgd : o.guard = none) (s x : Operand)
    (ho : o.op = .call { callee := .builtin .append, args := #[s, x], argTypes := #[22, 22] }) (b0 : Addr) (p : Option Addr) (c : Nat)
    (hs : a.eval s = .slice (some b0) 0 0) (hx : a.eval x = .slice p 0 c) (h : wpList Try.prog ops Q rest (a.put o.dst (.slice (some b0) 0 0)) w) : wpList Try.prog ops Q (o :: rest) a w :=
  wpList_plain hgd fun _ hK => by
    have hr := run_app0I w o.type b0 p c
    unfold Oper.wp execOp
    simp only [ho, resolve, invoke, builtin, Sem.run_bind, Sem.run_pure, Result.andThen_ok, List.map_toArray, List.map_cons, List.map_nil, hs, hx, hr]
    exact hK _ _ h
theorem own_cap {w : World} {base e s g n cap : Nat} {xs : List Value} (h : w.ownsRow base e s (.slice (some ⟨g, 0, none⟩) n cap) n xs) : n ≤ cap ∧ cap ≤ maxLen := by
  rcases h.2 with ⟨h1, _⟩ | ⟨g', cap', cur, h1, _, _, hn, hm, _, _⟩
  · cases h1
  · injection h1 with h1 h2 h3
    subst h3
    exact ⟨by omega, by omega⟩
/-- Integers as a batch. -/
theorem Batch.of_ints {h : Nat} {w : World} {A : Option Addr} {c : Nat} {l : List Int} (hI : Ints w A l) (hl : l.length = 2 * h) (h1 : 1 ≤ h) (hc : 2 * h ≤ c) : Batch h (fun q => l.getD q 0) w (.slice A (2 * h) c) := by
  obtain ⟨b, o, rfl, hS⟩ := Seg.of_ints hI (by omega)
  rw [hl] at hS
  exact ⟨b, o, c, rfl, hc, hS⟩
theorem Seg.ints {w : World} {b o h : Nat} {g : Nat → Nat} {l : List Int} (hS : Seg w b o (2 * h) (fun q => l.getD (g q) 0)) : Ints w (some ⟨b, o, none⟩) (byF h g l) := by
  refine .inr ⟨b, o, rfl, hS.lt, fun j v hj => ?_⟩
  have hlt : j < 2 * h := by have := (List.getElem?_eq_some_iff.1 hj).1; rwa [byF_len] at this
  rw [byF_get hlt] at hj
  injection hj with hj
  rw [← hj]
  exact hS.cells j hlt
theorem Batch.ints {h : Nat} {w : World} {v : Value} {g : Nat → Nat} {l : List Int} (hB : Batch h (fun q => l.getD (g q) 0) w v) : ∃ A c, v = .slice A (2 * h) c ∧ 2 * h ≤ c ∧ Ints w A (byF h g l) := by
  obtain ⟨b, o, c, rfl, hc, hS⟩ := hB
  exact ⟨_, c, rfl, hc, hS.ints⟩
theorem Row.byF {w : World} {g h : Nat} {f : Nat → Nat} {l : List Int} (hr : Row w g (2 * h) (2 * h) (fun q => l.getD (f q) 0)) : Ints w (some ⟨g, 0, none⟩) (byF h f l) := (Seg.of_row hr).ints
set_option maxRecDepth 100000 in
set_option maxHeartbeats 400000 in
theorem clone_any (A : Option Addr) (n c : Nat) (ns : List Int) (w : World) (hR : Ints w A ns) (hn : ns.length = n) (hpos : 0 < n) (hmax : n ≤ 100) :
    Calls Try.prog 66 #[.slice A n c] w fun e w' => ∃ g cap, e = .returned (.slice (some ⟨g, 0, none⟩) n cap) ∧ n ≤ cap ∧ Bel w w' ∧ Ints w' (some ⟨g, 0, none⟩) ns := by
  obtain ⟨i0, hi, hz0, hz1, hz2⟩ := info_parts info1I
  have hnil := fun (w : World) (a : Option Addr) (l c : Nat) => Go.run_eql_slice_nil (P := Try.prog) w 22 3 a l c Try.underlying22
  have Hn := Lib.hid hn
  clear hn
  obtain ⟨b1, b2, rfl, hbl1, hnw⟩ := hR.news (by intro e; rw [e] at Hn; have := Hn.out; simp at this; omega)
  have hnews : Hid (∀ w', Bel w w' → ∀ j u, (ns.map fun x => Value.int .i64 x)[j]? = some u → w'.cell? ((⟨b1, b2, none⟩ : Addr).add j) = some u) := by
    intro w' hb' j u hj
    have := hnw j u hj
    rw [Go.Addr.add_mid] at this ⊢
    rw [hb'.use.1 _ _ hbl1]
    exact this
  have hlit : Hid ((w.alloc (.cells #[] 3)).ownsRow w.heap.size 3 1 (.slice (some ⟨w.heap.size, 0, none⟩) 0 0) 0 []) := World.ownsRow_lit w #[] 0 (Nat.le_refl _) (by unfold maxLen; omega) rfl
  have hX3 := Lib.hid (show 0 + n ≤ maxLen by unfold maxLen; omega)
  have hX4 := Lib.hid (show (0 + n) * 8 ≤ 140737488355328 by omega)
  clear hnw
  go_enter Try.func66, Try.ntmps66
  go_wp2_with (at_builtin; go_loud (refine wpList_append_lies _ rfl (.tmp 5) (.tmp 6) 22 rfl w.heap.size 3 i0 _ 1 8 Try.underlying22 hi hz0 hz1 hz2 rfl (by decide) _ 0 [] (by rfl) hlit.out ⟨b1, b2, none⟩ n c (ns.map fun x => .int .i64 x) (by rfl) (by rw [List.length_map, Hn.out, Nat.mul_one]) (hnews.out _ (by (repeat (first | exact Bel.refl _ | assumption | refine Bel.drew ?_ | refine Bel.drewN ?_ _ | refine Bel.alloc ?_ _ | refine Bel.setCell ?_ (by first | omega | (simp; done) | (simp; omega) | (simp at *; omega)) _ | refine Bel.trans ?_ (by assumption))))) (one_map _) hpos hX3.out hX4.out (by simp) _ rfl ?_); intro g3 cap3 w3'; rw [show 0 + n = n from Nat.zero_add n, List.nil_append]; intro hown3 hgr3 hat3 hlt3)
  have hB3 := grown_own (w := w) ((Bel.refl w).alloc _) hlit.out (Nat.le_refl _) hgr3
  have hI3 := ints_row hown3
  have hcap := (own_cap hown3).1
  clear hown3 hgr3 hat3 hlt3
  go_ret
  exact ⟨g3, cap3, rfl, hcap, hB3, hI3⟩
/-- A folded dough, with no error. -/
def FoldV (h : Nat) (g : Nat → Nat) (l : List Int) (w : World) (e : Ending) (w' : World) : Prop :=
  ∃ A c, e = .returned (.tuple #[.slice A (2 * h) c, .int .i64 0]) ∧ 2 * h ≤ c ∧ Bel w w' ∧ Ints w' A (byF h g l)
def NilE (v : Int) (w : World) (e : Ending) (w' : World) : Prop := e = .returned (.tuple #[.slice none 0 0, .int .i64 v]) ∧ Bel w w'
set_option maxRecDepth 100000 in
set_option maxHeartbeats 1000000 in
theorem fold_ok (h : Nat) (D : Option Addr) (d : Nat) (l : List Int) (A : Option Addr) (n c : Nat) (ws : List Int) (w : World) (hD : Ints w D l) (hl : l.length = 2 * h) (hR : Ints w A ws) (hn : ws.length = n) (hE : eDW (2 * h : Nat) ws = 0) :
    Calls Try.prog 31 #[.slice D (2 * h) d, .slice A n c] w (FoldV h (unW h ws) l w) := by
  obtain ⟨hE1, hE2⟩ := eDW_zero hE
  obtain ⟨k, h1, h2, h3⟩ := eD_zero hE1
  obtain rfl : k = h := by omega
  obtain ⟨hw1, hw2⟩ := eW_zero hE2
  have hmx : n ≤ maxLen := by unfold maxLen; omega
  have HE := Lib.hid hE; have Hn := Lib.hid hn; have Hl := Lib.hid hl
  clear hE hE1 hE2 h3 hn hl hw1
  go_enter Try.func31, Try.ntmps31
  go_wp2_with fail
  refine (validateDW_any D (2 * k) d A n c ws _ hR Hn.out hmx).mono ?_
  rintro e w1 ⟨rfl, rfl⟩
  rw [HE.out]
  go_wp2_with fail
  refine (clone_any D (2 * k) d l _ hD Hl.out (by omega) (by omega)).mono ?_
  rintro e w1 ⟨g, cap, rfl, hcap, hb1, hI1⟩
  go_wp2_with fail
  refine (behind_any k _ A n c ws _ _ (Batch.of_ints hI1 Hl.out h1 hcap) h1 h2 (hR.bel hb1) Hn.out hmx hw2).mono ?_
  rintro e w2 ⟨v, rfl, hb2, hB⟩
  obtain ⟨A2, c2, rfl, hc2, hI2⟩ := hB.ints
  go_wp2
  exact bodyPost_ret (v := .tuple #[.slice A2 (2 * k) c2, .int .i64 0]) (by simp [results, Try.results31, go_sem]) rfl ⟨A2, c2, rfl, hc2, hb1.trans hb2, hI2⟩
set_option maxRecDepth 100000 in
set_option maxHeartbeats 1000000 in
theorem fold_err (D : Option Addr) (m d : Nat) (A : Option Addr) (n c : Nat) (ws : List Int) (w : World) (hR : Ints w A ws) (hn : ws.length = n) (hmx : n ≤ maxLen) (hE : eDW m ws ≠ 0) :
    Calls Try.prog 31 #[.slice D m d, .slice A n c] w (NilE (eDW m ws) w) := by
  obtain ⟨x, hx⟩ : ∃ x, x = eDW m ws := ⟨_, rfl⟩
  have HX := Lib.hid hx
  have hx0 : (x != 0) = true := by rw [hx]; simpa using hE
  rw [← hx]
  clear hE hx
  go_enter Try.func31, Try.ntmps31
  go_wp2_with fail
  refine (validateDW_any D m d A n c ws _ hR hn hmx).mono ?_
  rintro e w1 ⟨rfl, rfl⟩
  rw [← HX.out]
  go_wp2
  exact bodyPost_ret (v := .tuple #[.slice none 0 0, .int .i64 x]) (by simp [results, Try.results31, go_sem]) rfl ⟨rfl, Bel.refl _⟩
end Go.Proofs.Ythjjpmcefiddmaa
