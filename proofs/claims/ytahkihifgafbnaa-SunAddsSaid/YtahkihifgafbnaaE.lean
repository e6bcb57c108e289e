/- Tables of a call, fenced walks: who beats whom, and the strips that a strip beats, one by one. -/
import Derived.Test.YtahkihifgafbnaaD
import Derived.RangeFuncNested
import Derived.RangeFuncBound
import Derived.RangeFuncCalls
import Derived.RangeFuncLeaves
import Derived.Shelf.Abstract
import Derived.Shelf.RegionOpen
import Derived.WalkKit
import Derived.OwnWalkIn
import Derived.TacticsInMore
import Derived.LoopNIn
import Derived.LoopIn
namespace Go.Proofs.Ytahkihifgafbnaa
open Go.RowKit

attribute [local go_sem] Oper.semAt_some

/-- Does the strip a beat the strip b? -/
def ent (T : List (List Int)) (a b : Nat) : Int := ((T[a]?.getD [])[b]?).getD 0
/-- What lies in the blocks of S is as it was. -/
def Kept (S : Nat → Prop) (w w' : World) : Prop := ∀ k, S k → w'.heap[k]? = w.heap[k]?
theorem Kept.refl (S : Nat → Prop) (w : World) : Kept S w w := fun _ _ => rfl
theorem Kept.trans {S : Nat → Prop} {a b c : World} (h : Kept S a b) (k : Kept S b c) : Kept S a c := fun i hi => (k i hi).trans (h i hi)
theorem Kept.cell {S : Nat → Prop} {w w' : World} (h : Kept S w w') {b o : Nat} (hb : S b) : w'.cell? ⟨b, o, none⟩ = w.cell? ⟨b, o, none⟩ := World.cell?_of_block (w := w) (a := ⟨b, o, none⟩) (h b hb)
theorem Kept.put {S : Nat → Prop} {w0 : World} (hS : ∀ k, S k → k < w0.heap.size) (W : World) (l : Nat) (o o' : Obj) (hl : w0.heap.size ≤ l) (_ : W.heap[l]? = some o) (_ : o.isCells = false) (_ : o.isWalk = false) : Kept S W (W.putObj l o') := fun k hk => World.putObj_heap_other (by have := hS k hk; omega)
theorem Kept.below {S : Nat → Prop} {n₀ : Nat} {w w' : World} (h : Below n₀ w w') (hS : ∀ k, S k → k < n₀) : Kept S w w' := fun k hk => h.block k (hS k hk)
/-- The slice at A reads as the table T, all of it in blocks of S. -/
def TabN (S : Nat → Prop) (W : World) (A : Option Addr) (T : List (List Int)) : Prop :=
  ∃ b o, A = some ⟨b, o, none⟩ ∧ S b ∧ ∀ (j : Nat) (ns : List Int), T[j]? = some ns → ∃ b' o' n' c', W.cell? ⟨b, o + j, none⟩ = some (.slice (some ⟨b', o', none⟩) n' c') ∧ ns.length = n' ∧ S b' ∧ ∀ (i : Nat) (v : Int), ns[i]? = some v → W.cell? ⟨b', o' + i, none⟩ = some (.int .i64 v)
theorem TabN.kept {S : Nat → Prop} {w w' : World} {A : Option Addr} {T : List (List Int)} (h : TabN S w A T) (hb : Kept S w w') : TabN S w' A T := by
  obtain ⟨b, o, hA, hlt, hc⟩ := h
  refine ⟨b, o, hA, hlt, fun j ns hj => ?_⟩
  obtain ⟨b', o', n', c', h1, h2, h3, h4⟩ := hc j ns hj
  exact ⟨b', o', n', c', (hb.cell hlt).trans h1, h2, h3, fun i v hi => (hb.cell h3).trans (h4 i v hi)⟩
theorem TabN.mono {S S' : Nat → Prop} {w : World} {A : Option Addr} {T : List (List Int)} (h : TabN S w A T) (hS : ∀ k, S k → S' k) : TabN S' w A T := by
  obtain ⟨b, o, hA, hlt, hc⟩ := h
  refine ⟨b, o, hA, hS _ hlt, fun j ns hj => ?_⟩
  obtain ⟨b', o', n', c', h1, h2, h3, h4⟩ := hc j ns hj
  exact ⟨b', o', n', c', h1, h2, hS _ h3, h4⟩
/-- A square table. -/
def Square (T : List (List Int)) (m : Nat) : Prop := T.length = m ∧ ∀ r ∈ T, r.length = m
theorem Square.at_ {T : List (List Int)} {m a b : Nat} (h : Square T m) (ha : a < m) (hb : b < m) : ∃ r, T[a]? = some r ∧ r.length = m ∧ r[b]? = some (ent T a b) := by
  obtain ⟨r, hr⟩ : ∃ r, T[a]? = some r := ⟨_, List.getElem?_eq_getElem (by rw [h.1]; exact ha)⟩
  have hl := h.2 r (List.mem_of_getElem? hr)
  refine ⟨r, hr, hl, ?_⟩
  unfold ent
  rw [hr]
  simp only [Option.getD_some]
  rw [List.getElem?_eq_getElem (by omega)]
  rfl

set_option maxHeartbeats 1000000 in
theorem beats_any (S : Nat → Prop) (A : Option Addr) (m c a b : Nat) (T : List (List Int)) (w : World) (hT : TabN S w A T) (hs : Square T m) (ha : a < m) (hb : b < m) :
    Calls Try.prog 80 #[.slice A m c, .int .i64 (a : Int), .int .i64 (b : Int)] w fun e w' => e = .returned (.bool (decide (ent T a b = 1))) ∧ w = w' := by
  obtain ⟨r, h1, h2, h3⟩ := hs.at_ ha hb
  obtain ⟨g, o, rfl, -, hc⟩ := hT
  obtain ⟨g', o', n', c', k1, k2, -, k3⟩ := hc a r h1
  have k4 := k3 b _ h3
  obtain rfl : n' = m := by omega
  generalize ent T a b = x at *
  clear h1 h2 h3 k2 k3 hc
  have i1 : (a : Int) < (n' : Int) := by omega
  have i2 : (b : Int) < (n' : Int) := by omega
  go_enter Try.func80, Try.ntmps80
  go_wp2
  go_ret
  exact ⟨by simp; rfl, rfl⟩
end Go.Proofs.Ytahkihifgafbnaa
