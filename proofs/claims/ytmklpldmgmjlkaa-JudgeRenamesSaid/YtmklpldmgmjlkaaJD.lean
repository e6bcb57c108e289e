/- Judging: the closure that asks whether a state is good. -/
import Derived.Test.YtmklpldmgmjlkaaJC
namespace Go.Proofs.Ytmklpldmgmjlkaa
open Go.RowKit Go.Maps

/-- But for the map and new blocks all is as it was. -/
def Gr (M : Nat) (w w' : World) : Prop := w.grownBy w' (some M)
theorem Gr.of_bel {M : Nat} {w w' : World} (h : Bel w w') : Gr M w w' := ⟨h.os, h.tape, h.output, h.size, fun k hk _ => h.block k hk⟩
theorem Gr.trans {M : Nat} {a b c : World} (h : Gr M a b) (k : Gr M b c) : Gr M a c :=
  ⟨k.os.trans h.os, k.tape.trans h.tape, k.output.trans h.output, Nat.le_trans h.size k.size, fun i hi hne => (k.block i (Nat.lt_of_lt_of_le hi h.size) hne).trans (h.block i hi hne)⟩
theorem Gr.bel {M : Nat} {a b c : World} (h : Gr M a b) (k : Bel b c) : Gr M a c := h.trans (Gr.of_bel k)
theorem Gr.cell {M : Nat} {w w' : World} (h : Gr M w w') {k : Nat} (hk : k < w.heap.size) (hne : k ≠ M) (o : Nat) : w'.cell? ⟨k, o, none⟩ = w.cell? ⟨k, o, none⟩ :=
  World.cell?_of_block (w := w) (h.block k hk (fun e => hne (Option.some.inj e)))
theorem Gr.frozen {M : Nat} {w w' : World} (h : Gr M w w') {k : Nat} (hk : k < w.heap.size) (hne : k ≠ M) (o : Nat) : w'.frozen? ⟨k, o, none⟩ = w.frozen? ⟨k, o, none⟩ :=
  World.frozen?_of_block (w := w) (h.block k hk (fun e => hne (Option.some.inj e)))
theorem Gr.below {M : Nat} {w w' : World} (h : Gr M w w') {B : Nat} {a : World} (hb : Below B a w) (hB : B ≤ w.heap.size) (hM : B ≤ M) : Below B a w' :=
  Below.grown hb h hB (fun k hk => by injection hk with hk; omega)
theorem Known.kept {w w' : World} {M : Nat} {row : Option Nat} (h : Known w M) (hg : w.grownBy w' row) (hne : some M ≠ row) : Known w' M := by
  obtain ⟨D, hG, ho⟩ := h
  exact ⟨D, hG, ho.kept hg hne⟩
/-- The map, and the variables of the map and of the closure. -/
structure Inv (w : World) (M m s : Nat) : Prop where
  known : Known w M
  cm : w.cell? ⟨m, 0, none⟩ = some (.map (some M))
  cs : w.cell? ⟨s, 0, none⟩ = some (.func (Fn.func 56) #[] #[.pointer (some ⟨m, 0, none⟩), .pointer (some ⟨s, 0, none⟩)])
  nm : m ≠ M
  ns : s ≠ M
  lm : m < w.heap.size
  ls : s < w.heap.size
theorem Inv.bel {w w' : World} {M m s : Nat} (h : Inv w M m s) (hb : Bel w w') : Inv w' M m s :=
  ⟨h.known.kept (row := none) ⟨hb.os, hb.tape, hb.output, hb.size, fun k hk _ => hb.block k hk⟩ (by simp), by rw [hb.use.1 _ _ h.lm]; exact h.cm, by rw [hb.use.1 _ _ h.ls]; exact h.cs, h.nm, h.ns, Nat.lt_of_lt_of_le h.lm hb.size, Nat.lt_of_lt_of_le h.ls hb.size⟩
/-- What the closure answers. -/
def Sought (M m s q a b : Nat) (w : World) (e : Ending) (w' : World) : Prop :=
  ∃ (x y : Nat) (ok : Bool), e = .returned (.agg #[.int .i64 (x : Int), .int .i64 (y : Int), .bool ok]) ∧ Right q a b x y ok ∧ Inv w' M m s ∧ Gr M w w'
def Asks (M m s p a b : Nat) (w : World) (e : Ending) (w' : World) : Prop := e = .returned (.bool (en p a b)) ∧ Inv w' M m s ∧ Gr M w w'

theorem field_ok (x y : Int) (ok : Bool) (w : World) : (Instr.field 65 (.agg #[.int .i64 x, .int .i64 y, .bool ok]) 2).run Try.prog w = .ok (.bool ok) w := by kernel_rfl
set_option maxRecDepth 100000 in
set_option maxHeartbeats 400000 in
theorem isGood_any (M m s p : Nat) (hp : p ≤ 12) (ih : Hid (∀ (a b : Nat) (w : World), a + b ≤ 48 → ¬ a + b ≤ 1 → Inv w M m s → Calls Try.prog 56 #[.agg #[.int .i64 (a : Int), .int .i64 (b : Int)], .int .i64 (p : Int), .pointer (some ⟨m, 0, none⟩), .pointer (some ⟨s, 0, none⟩)] w (Sought M m s p a b w)))
    (a b Q : Nat) (w : World) (hm : a + b ≤ 48) (hI : Inv w M m s) (hQ : Q < w.heap.size) (hc : w.cell? ⟨Q, 0, none⟩ = some (.int .i64 ((p : Int) + 1))) :
    Calls Try.prog 58 #[.agg #[.int .i64 (a : Int), .int .i64 (b : Int)], .pointer (some ⟨s, 0, none⟩), .pointer (some ⟨Q, 0, none⟩)] w (Asks M m s p a b w) := by
  by_cases h1 : a + b ≤ 1
  · have HE := Lib.hid (en_settled (q := p) h1)
    clear hc
    go_enter Try.func58, Try.ntmps58
    go_wp2_with fail
    refine (settled_yes a b _ h1).mono ?_
    rintro e w1 ⟨rfl, hb1⟩
    have hb : Bel w w1 := by (repeat (first | exact Bel.refl _ | assumption | refine Bel.drew ?_ | refine Bel.drewN ?_ _ | refine Bel.alloc ?_ _ | refine Bel.setCell ?_ (by first | omega | (simp; done) | (simp; omega) | (simp at *; omega)) _ | refine Bel.trans ?_ (by assumption)))
    go_wp2
    go_ret
    exact ⟨ret_bool HE.out.symm, hI.bel hb, Gr.of_bel hb⟩
  · have HC := Lib.hid hc
    have hp0 : (p : Int) ≤ 12 := by omega
    clear hc
    go_enter Try.func58, Try.ntmps58
    go_wp2_with fail
    refine (settled_no a b _ h1 hm).mono ?_
    rintro e w1 ⟨rfl, hb1⟩
    have hb : Bel w w1 := by (repeat (first | exact Bel.refl _ | assumption | refine Bel.drew ?_ | refine Bel.drewN ?_ _ | refine Bel.alloc ?_ _ | refine Bel.setCell ?_ (by first | omega | (simp; done) | (simp; omega) | (simp at *; omega)) _ | refine Bel.trans ?_ (by assumption)))
    have hI1 := hI.bel hb
    have c1 := hI1.cs
    have c2 : w1.cell? ⟨Q, 0, none⟩ = some (.int .i64 ((p : Int) + 1)) := by rw [hb.use.1 _ _ hQ]; exact HC.out
    obtain ⟨b0, b1⟩ := box2 hb1
    go_wp2_with fail
    refine (ih.out a b _ hm h1 hI1).mono ?_
    rintro e w2 ⟨x, y, ok, rfl, hr, hI2, hg2⟩
    have HR := Lib.hid hr
    clear hr c1 c2 b0 b1 hb1
    have hfo := field_ok
    go_wp2
    go_ret
    exact ⟨ret_bool HR.out.1, hI2, (Gr.of_bel hb).trans hg2⟩
end Go.Proofs.Ytmklpldmgmjlkaa

