/- Plain: the rounds of one fold, in ascending order, and how often it is done till all is back. -/
import Derived.Test.YthjjpmcefiddmaaSB
namespace Go.Proofs.Ythjjpmcefiddmaa
open Go.RowKit

theorem rep_cons (t k : Nat) : rep (t + 1) k = (k : Int) :: rep t k := by unfold rep; rw [List.replicate_succ]
theorem itF_un (h k : Nat) (q : Nat) : ∀ m, itF (unN h k) m q = unW h (rep m k) q
  | 0 => rfl
  | m + 1 => by
    rw [rep_cons, unW_cons, ← itF_un h k q m]
    rfl
theorem itF_go (h k : Nat) (q : Nat) : ∀ m, itF (goN h k) m q = goW h (rep m k) q
  | 0 => rfl
  | m + 1 => by
    rw [rep_succ, goW_app, ← itF_go h k q m]
    rfl
theorem perm_un {h k : Nat} (h1 : 1 ≤ h) (h16 : h ≤ 16) (hk : k ≤ 1) : Perm (unN h k) (2 * h) (timesN h k) := by
  refine ⟨fun p hp => unN_lt hp, fun p q hp hq e => ?_, by unfold timesN; omega, fun p hp => ?_⟩
  · have := go_un hk hp
    rw [e, go_un hk hq] at this
    exact this.symm
  · rw [itF_un]
    exact (tmB_iff hk).1 (timesN_ok h1 h16 hk).1 p hp
theorem perm_go {h k : Nat} (h1 : 1 ≤ h) (h16 : h ≤ 16) (hk : k ≤ 1) : Perm (goN h k) (2 * h) (timesN h k) := by
  refine ⟨fun p hp => goN_lt hk hp, fun p q hp hq e => ?_, by unfold timesN; omega, fun p hp => ?_⟩
  · have := un_go hk hp
    rw [e, un_go hk hq] at this
    exact this.symm
  · rw [itF_go]
    have := List.all_eq_true.1 (timesN_ok h1 h16 hk).1 p (List.mem_range.2 hp)
    exact of_decide_eq_true this
/-- The length of the round of a place, as the document finds it. -/
def cycG (h k p : Nat) : Nat := cycF (goN h k) (timesN h k) p
/-- How many of the first s places have a round of this length. -/
def cntG (h k len s : Nat) : Nat := ((List.range s).filter fun p => decide (cycG h k p = len)).length
theorem cntG_succ (h k len s : Nat) : cntG h k len (s + 1) = if cycG h k s = len then cntG h k len s + 1 else cntG h k len s := by
  unfold cntG
  rw [List.range_succ, List.filter_append]
  by_cases e : cycG h k s = len
  · rw [if_pos e]; simp [e]
  · rw [if_neg e]; simp [e]
/-- The lengths up to s, each as often as there are rounds of it. -/
def refR (h k s : Nat) : List Int := (List.range s).flatMap fun j => List.replicate (cntG h k (j + 1) (2 * h) / (j + 1)) ((j + 1 : Nat) : Int)
theorem refR_succ (h k s : Nat) : refR h k (s + 1) = refR h k s ++ List.replicate (cntG h k (s + 1) (2 * h) / (s + 1)) ((s + 1 : Nat) : Int) := by
  unfold refR
  rw [List.range_succ, List.flatMap_append]
  simp
/-- Is all back after n folds, as the document asks? -/
def allG (h k n s : Nat) : Bool := (List.range s).all fun p => decide (n % cycG h k p = 0)
theorem allG_succ (h k n s : Nat) : allG h k n (s + 1) = (allG h k n s && decide (n % cycG h k s = 0)) := by
  unfold allG
  rw [List.range_succ, List.all_append]
  simp
def factsB (h k : Nat) : Bool :=
  (rdsTo (unN h k) (timesN h k) (2 * h)).isPerm (refR h k (2 * h)) && (refR h k (2 * h)).foldl (· + ·) 0 == ((2 * h : Nat) : Int) && (refR h k (2 * h)).all (fun v => decide (1 ≤ v ∧ v ≤ 32 ∧ (timesN h k : Int) % v = 0)) && decide ((refR h k (2 * h)).Pairwise (· ≤ ·)) && allG h k (timesN h k) (2 * h)
set_option maxRecDepth 100000 in
theorem facts_all : (List.range 16).all (fun h => (List.range 2).all fun k => factsB (h + 1) k) = true := by decide +kernel
end Go.Proofs.Ythjjpmcefiddmaa
