/- Slices of pairs that a function appends to. -/
import Derived.Test.YtmbhhooiaonhjaaN
import Derived.Maps.AppendAt
namespace Go.Proofs.Ytmbhhooiaonhjaa
open Go.RowKit

/-- The slice v is the call's own, from block 'base' on, and holds the pairs l. -/
def Own2 (e : TypeId) (base : Nat) (w : World) (v : Value) (l : List (Int × Int)) : Prop := w.ownsRow base e 2 v l.length (cel2 l)
/-- Two own slices lie apart. -/
def Apart (u v : Value) : Prop := ∀ k, u.ownBlock = some k → v.ownBlock ≠ some k
theorem Apart.symm {u v : Value} (h : Apart u v) : Apart v u := fun k hk hk' => h k hk' hk
theorem apart_nil (v : Value) (n c : Nat) : Apart (.slice none n c) v := fun k hk => by cases hk
section
variable {e base : Nat} {w w' : World} {v u : Value} {l m : List (Int × Int)}
theorem Own2.nil (e base : Nat) (w : World) : Own2 e base w (.slice none 0 0) [] := World.ownsRow_nil _ _ _ _
theorem Own2.alloc (h : Own2 e base w v l) (o : Obj) : Own2 e base (w.alloc o) v l := World.ownsRow.alloc h o
theorem Own2.bel (h : Own2 e base w v l) (hb : Bel w w') : Own2 e base w' v l :=
  World.ownsRow.kept (row := none) h ⟨hb.os, hb.tape, hb.output, hb.size, fun k hk _ => hb.block k hk⟩ (by
    cases hv : v.ownBlock with
    | none => exact .inl rfl
    | some k => exact .inr (by simp))
theorem Own2.kept (h : Own2 e base w v l) (ha : Apart v u) (hg : w.grownBy w' u.ownBlock) : Own2 e base w' v l := by
  refine World.ownsRow.kept h hg ?_
  cases hv : v.ownBlock with
  | none => exact .inl rfl
  | some k => exact .inr (fun e => ha k hv e.symm)
theorem Own2.prs {A : Option Addr} {n c : Nat} (h : Own2 e base w (.slice A n c) l) : Prs w A l := prs_of_own h
theorem Own2.form (h : Own2 e base w v l) : ∃ A n c, v = .slice A n c ∧ n = l.length := own_form h
/-- Behind an append of one pair. -/
theorem Own2.snoc {a b : Int} (h : w'.ownsRow base e 2 v (l.length + 1) (cel2 l ++ [.int .i64 a, .int .i64 b])) : Own2 e base w' v (l ++ [(a, b)]) := by
  unfold Own2
  have e1 : (l ++ [(a, b)]).length = l.length + 1 := by simp
  have e2 : cel2 (l ++ [(a, b)]) = cel2 l ++ [.int .i64 a, .int .i64 b] := by simp [cel2]
  rw [e1, e2]
  exact h
theorem Own2.apart (h : Own2 e base w u m) (ha : Apart u v) {v' : Value} (hat : v'.ownBlock = v.ownBlock ∨ v'.ownBlock = some w.heap.size) : Apart u v' := by
  intro k hk hk'
  rcases hat with hat | hat
  · exact ha k hk (hat ▸ hk')
  · have := (World.ownsRow.lt h k hk).2
    rw [hat] at hk'
    injection hk' with hk'
    omega
theorem Bel.own {w0 : World} (hb : Bel w0 w) (ho : Own2 e base w v l) (hg : w.grownBy w' v.ownBlock) (h0 : w0.heap.size ≤ base) : Bel w0 w' :=
  Below.grown hb hg hb.size (fun k hk => Nat.le_trans h0 (World.ownsRow.lt ho k hk).1)
end
theorem Prs.cellsAt {w : World} {b o k : Nat} {gs : List (Int × Int)} {s m : Int} (h : Prs w (some ⟨b, o, none⟩) gs) (hg : gs[k]? = some (s, m)) :
    w.cell? ⟨b, o + k * 2, none⟩ = some (.int .i64 s) ∧ w.cell? ⟨b, o + k * 2 + 1, none⟩ = some (.int .i64 m) := by
  rcases h with rfl | ⟨b', o', hA, _, hc⟩
  · simp at hg
  · injection hA with hA
    injection hA with e1 e2
    subst e1 e2
    exact hc k s m hg
/-- The one pair that is appended lies in a new block. -/
theorem new2 (w : World) (a b : Int) (ty : TypeId) : ∀ j u, [Value.int .i64 a, .int .i64 b][j]? = some u → (w.alloc (.cells #[.int .i64 a, .int .i64 b] ty)).cell? ((⟨w.heap.size, 0, none⟩ : Addr).add j) = some u := by
  intro j u hj
  rw [Go.Addr.add_mid]
  match j, hj with
  | 0, hj => simpa using hj
  | 1, hj => simpa using hj
theorem one2 (a b : Int) : ∀ u ∈ [Value.int .i64 a, .int .i64 b], u.oneCell' = true := by
  intro u hu
  simp at hu
  rcases hu with rfl | rfl <;> rfl
theorem info2R : (Try.prog.info? 46).map (fun i => (i.zero, i.size, i.bytes)) = some (some (.agg #[.int .i64 0, .int .i64 0]), 2, 16) := by kernel_rfl
end Go.Proofs.Ytmbhhooiaonhjaa

