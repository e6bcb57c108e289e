/- Records: the document's Copy. -/
import Derived.Test.YtmklpldmgmjlkaaKV
namespace Go.Proofs.Ytmklpldmgmjlkaa
open Go.RowKit

theorem run_app0I (W : World) (ty : TypeId) (b0 : Addr) (p : Option Addr) (c : Nat) :
    (Builtin.append_ #[23, 23] ty #[.slice (some b0) 0 0, .slice p 0 c]).run Try.prog W = .ok (.slice (some b0) 0 0) W := by
  obtain ⟨i, hi, _⟩ := Option.map_eq_some_iff.1 info1I
  cases p <;> simp [Builtin.append_, run_underlying Try.underlying23, sizeOf, typeInfo, hi, Builtin.lenOf, Builtin.firstCells, loadCells, loadCellsFrom, storeCells]
/-- An append of no integer, at a step of a region that draws. -/
theorem step_app0I {ops : Array Oper} {o : Oper} {a : Act} {w : World} {K : Act → World → Prop} {Q : Exit → Act → World → Prop} {E : Prop} (hgd : o.guard = none) (s x : Operand)
    (ho : o.op = .call { callee := .builtin .append, args := #[s, x], argTypes := #[23, 23] }) (b0 : Addr) (p : Option Addr) (c : Nat)
    (hs : a.eval s = .slice (some b0) 0 0) (hx : a.eval x = .slice p 0 c) (h : K (a.put o.dst (.slice (some b0) 0 0)) w) :
    if Region.wanted o (yielded ops a.tmps) = true then Oper.wp Try.prog o a w K Q else E := by
  have hw : Region.wanted o (yielded ops a.tmps) = true := by simp [Region.wanted, hgd]
  rw [if_pos hw]
  have hr := run_app0I w o.type b0 p c
  unfold Oper.wp execOp
  simp only [ho, resolve, invoke, builtin, Sem.run_bind, Sem.run_pure, Result.andThen_ok, List.map_toArray, List.map_cons, List.map_nil, hs, hx, hr]
  exact h
theorem Ints.news {w : World} {A : Option Addr} {ns : List Int} (h : Ints w A ns) (hne : ns ≠ []) : ∃ b o, A = some ⟨b, o, none⟩ ∧ b < w.heap.size ∧ ∀ j u, (ns.map fun x => Value.int .i64 x)[j]? = some u → w.cell? ((⟨b, o, none⟩ : Addr).add j) = some u := by
  rcases h with h | ⟨b, o, rfl, hl, hc⟩
  · exact absurd h hne
  · refine ⟨b, o, rfl, hl, fun j u hj => ?_⟩
    simp only [List.getElem?_map, Option.map_eq_some_iff] at hj
    obtain ⟨v, hv, rfl⟩ := hj
    rw [Go.Addr.add_mid]
    exact hc j v hv
theorem one_map (ns : List Int) : ∀ u ∈ ns.map (fun x => Value.int .i64 x), u.oneCell' = true := by
  intro u hu
  obtain ⟨v, _, rfl⟩ := List.mem_map.1 hu
  rfl
/-- A row of integers in memory, as it is read. -/
theorem ints_row {w : World} {base e g n cap : Nat} {ns : List Int} (h : w.ownsRow base e 1 (.slice (some ⟨g, 0, none⟩) n cap) n (ns.map fun x => .int .i64 x)) : Ints w (some ⟨g, 0, none⟩) ns := by
  have hlt := (World.ownsRow.lt h g rfl).2
  have hc := World.ownsRow.cells (g := g) h rfl
  refine .inr ⟨g, 0, rfl, hlt, fun j v hj => ?_⟩
  have := hc j (.int .i64 v) (by rw [List.getElem?_map, hj]; rfl)
  rw [Go.Addr.add_mid] at this
  exact this
def Copied (w : World) (L : List An) (e : Ending) (w' : World) : Prop := ∃ v, e = .returned v ∧ OwnA w.heap.size w' v L ∧ Bel w w' ∧ w.heap.size ≤ w'.heap.size

end Go.Proofs.Ytmklpldmgmjlkaa

