/- Records: slices.Clone, and judge.Without, walked. -/
import Derived.Test.YtmklpldmgmjlkaaKX
import Derived.Lib.LazyBuf
namespace Go.Proofs.Ytmklpldmgmjlkaa
open Go.RowKit

theorem wpList_app0I {ops : Array Oper} {rest : List Oper} {o : Oper} {a : Act} {w : World} {Q : Exit → Act → World → Prop} (hgd : o.guard = none) (s x : Operand)
    (ho : o.op = .call { callee := .builtin .append, args := #[s, x], argTypes := #[23, 23] }) (b0 : Addr) (p : Option Addr) (c : Nat)
    (hs : a.eval s = .slice (some b0) 0 0) (hx : a.eval x = .slice p 0 c) (h : wpList Try.prog ops Q rest (a.put o.dst (.slice (some b0) 0 0)) w) : wpList Try.prog ops Q (o :: rest) a w :=
  wpList_plain hgd fun _ hK => by
    have hr := run_app0I w o.type b0 p c
    unfold Oper.wp execOp
    simp only [ho, resolve, invoke, builtin, Sem.run_bind, Sem.run_pure, Result.andThen_ok, List.map_toArray, List.map_cons, List.map_nil, hs, hx, hr]
    exact hK _ _ h
/-- The first i answers without the answer k. -/
def woTo (L : List An) (k i : Nat) : List An := (L.take i).eraseIdx k
theorem woTo_zero (L : List An) (k : Nat) : woTo L k 0 = [] := by simp [woTo]
theorem woTo_skip {L : List An} {k : Nat} (hk : k < L.length) : woTo L k (k + 1) = woTo L k k := by
  have h : L[k]? = some L[k] := List.getElem?_eq_getElem hk
  have hl : (L.take k).length = k := by rw [List.length_take]; omega
  unfold woTo
  rw [take_at h, List.eraseIdx_append_of_length_le (by omega), hl, Nat.sub_self, List.eraseIdx_of_length_le (l := L.take k) (by omega)]
  simp
theorem woTo_next {L : List An} {k i : Nat} {a : An} (h : L[i]? = some a) (hne : i ≠ k) : woTo L k (i + 1) = woTo L k i ++ [a] := by
  have hi : i < L.length := (List.getElem?_eq_some_iff.1 h).1
  have hl : (L.take i).length = i := by rw [List.length_take]; omega
  unfold woTo
  rw [take_at h]
  rcases (by omega : i < k ∨ k < i) with h1 | h1
  · rw [List.eraseIdx_of_length_le (by simp [hl]; omega), List.eraseIdx_of_length_le (by omega)]
  · rw [List.eraseIdx_append_of_lt_length (by omega)]
theorem woTo_len (L : List An) (k i : Nat) : (woTo L k i).length ≤ i := by
  unfold woTo
  have := List.length_eraseIdx_le (l := L.take i) (i := k)
  have := List.length_take_le i L
  omega
theorem row_ne {w : World} {base e size n : Nat} {v : Value} {xs : List Value} (h : w.ownsRow base e size v n xs) : v.ownBlock ≠ some w.heap.size := fun e => by have := (World.ownsRow.lt h _ e).2; omega
theorem kept_box {W W3 : World} {row : Option Nat} {b : Nat} {x y : Value} (hg : W.grownBy W3 row) (hne : row ≠ some b) (hb : b < W.heap.size) (h : W.cell? ⟨b, 0, none⟩ = some x ∧ W.cell? ⟨b, 1, none⟩ = some y) : W3.cell? ⟨b, 0, none⟩ = some x ∧ W3.cell? ⟨b, 1, none⟩ = some y := by
  have hbl := hg.block b hb (fun e => hne e.symm)
  exact ⟨(World.cell?_of_block (w := W) (a := ⟨b, 0, none⟩) hbl).trans h.1, (World.cell?_of_block (w := W) (a := ⟨b, 1, none⟩) hbl).trans h.2⟩
def Without (w : World) (L : List An) (e : Ending) (w' : World) : Prop := ∃ A n c, e = .returned (.tuple #[.slice A n c, .int .i64 0]) ∧ n = L.length ∧ Bel w w' ∧ Ans w' A L

end Go.Proofs.Ytmklpldmgmjlkaa

