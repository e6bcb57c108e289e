/- Possible of the document. -/
import Derived.Test.YtmckoehkekkldaaAX
import Derived.Test.YtmckoehkekkldaaAI
import Derived.Laws.OwnMore
namespace Go.Proofs.Ytmckoehkekkldaa
open Go.RowKit

/-- The answers to a case, as the document's list. -/
def rowC (P : List Wg) (c : Int × Int) : List Int := timesL (markL P c.1) c.2
def rowsC (P : List Wg) (n : Nat) : List (List Int) := ((0, 0) :: casesL n).map (rowC P)
theorem rowC_at (P : List Wg) (c : Int × Int) (k : Nat) : (rowC P c)[k]? = if k < P.length then some (ansN P c.1 c.2 k) else none := by
  unfold rowC timesL ansN
  rw [List.getElem?_map, markL_at]
  split
  · simp [Int.mul_comm]
  · rfl
theorem rowC_len (P : List Wg) (c : Int × Int) : (rowC P c).length = P.length := by unfold rowC timesL; rw [List.length_map, markL_length]
theorem rowC_iff {P : List Wg} (h3 : P.length ≤ 3) (c d : Int × Int) : rowC P c = rowC P d ↔ ansM P c = ansM P d := by
  have out : ∀ (c : Int × Int) (k : Nat), P.length ≤ k → ansN P c.1 c.2 k = 0 := fun c k hk => by unfold ansN; rw [markN_out hk]; simp
  constructor
  · intro h
    have each : ∀ k, ansN P c.1 c.2 k = ansN P d.1 d.2 k := by
      intro k
      by_cases hk : k < P.length
      · have h1 := rowC_at P c k
        rw [h, rowC_at, if_pos hk, if_pos hk] at h1
        injection h1 with h1
        exact h1.symm
      · rw [out c k (by omega), out d k (by omega)]
    unfold ansM
    rw [each 0, each 1, each 2]
  · intro h
    unfold ansM at h
    simp only [Prod.mk.injEq] at h
    apply List.ext_getElem?
    intro k
    rw [rowC_at, rowC_at]
    split
    · rcases (by omega : k = 0 ∨ k = 1 ∨ k = 2) with rfl | rfl | rfl
      · rw [h.1]
      · rw [h.2.1]
      · rw [h.2.2]
    · rfl
theorem cntD_two {α β γ : Type} [DecidableEq β] [DecidableEq γ] (f : α → β) (g : α → γ) (h : ∀ a b, f a = f b ↔ g a = g b) : ∀ l : List α, cntD (l.map f) = cntD (l.map g)
  | [] => rfl
  | a :: l => by
    have hm : (f a ∈ l.map f) ↔ (g a ∈ l.map g) := by
      rw [List.mem_map, List.mem_map]
      constructor
      · rintro ⟨b, hb, e⟩
        exact ⟨b, hb, (h b a).1 e⟩
      · rintro ⟨b, hb, e⟩
        exact ⟨b, hb, (h b a).2 e⟩
    rw [List.map_cons, List.map_cons, cntD, cntD, cntD_two f g h l]
    by_cases e : f a ∈ l.map f
    · rw [if_pos e, if_pos (hm.1 e)]
    · rw [if_neg e, if_neg (fun h1 => e (hm.2 h1))]
theorem possN_rows {P : List Wg} (h3 : P.length ≤ 3) (n : Nat) : cntD (rowsC P n) = possN P n := by
  unfold possN keysP rowsC
  have e : (0, 0, 0) = ansM P (0, 0) := by unfold ansM ansN; simp
  rw [e, ← List.map_cons]
  exact cntD_two _ _ (rowC_iff h3) _
theorem rowsC_length (P : List Wg) (n : Nat) : (rowsC P n).length = n * 2 + 1 := by simp [rowsC, casesL_length]
theorem rowsC_next (P : List Wg) {n k : Nat} (hk : k < n * 2) : (rowsC P n).take (k + 1 + 1) = (rowsC P n).take (k + 1) ++ [rowC P ((lotN k : Int), wayN k)] := by
  refine take_at ?_
  unfold rowsC
  rw [List.getElem?_map, List.getElem?_cons_succ, casesL_at n k hk]
  rfl
/-- What has been found among the first k. -/
structure Found (P : List Wg) (n k : Nat) (F : List (List Int)) : Prop where
  len : F.length = cntD ((rowsC P n).take k)
  mem : ∀ r, r ∈ F ↔ r ∈ (rowsC P n).take k
  rows : ∀ r ∈ F, r.length = P.length
theorem Found.few {P : List Wg} {n k : Nat} {F : List (List Int)} (h : Found P n k F) : F.length ≤ n * 2 + 1 := by
  rw [h.len]
  refine Nat.le_trans (cntD_le _) ?_
  rw [List.length_take, rowsC_length]
  omega
theorem Found.start (P : List Wg) (n : Nat) : Found P n 1 [rowC P (0, 0)] := by
  have e : (rowsC P n).take 1 = [rowC P (0, 0)] := by simp [rowsC]
  refine ⟨by rw [e]; simp [cntD], fun r => by rw [e], fun r hr => ?_⟩
  rw [List.mem_singleton.1 hr]
  exact rowC_len _ _
theorem Found.old {P : List Wg} {n k : Nat} {F : List (List Int)} (h : Found P n (k + 1) F) (hk : k < n * 2) (hm : rowC P ((lotN k : Int), wayN k) ∈ F) : Found P n (k + 1 + 1) F := by
  refine ⟨?_, fun r => ?_, h.rows⟩
  · rw [rowsC_next P hk, cntD_app, if_pos ((h.mem _).1 hm)]
    exact h.len
  · rw [rowsC_next P hk, h.mem, List.mem_append, List.mem_singleton]
    constructor
    · exact .inl
    · rintro (h1 | rfl)
      · exact h1
      · exact (h.mem _).1 hm
theorem Found.fresh {P : List Wg} {n k : Nat} {F : List (List Int)} (h : Found P n (k + 1) F) (hk : k < n * 2) (hm : ¬ rowC P ((lotN k : Int), wayN k) ∈ F) : Found P n (k + 1 + 1) (F ++ [rowC P ((lotN k : Int), wayN k)]) := by
  refine ⟨?_, fun r => ?_, fun r hr => ?_⟩
  · rw [rowsC_next P hk, cntD_app, if_neg (fun h1 => hm ((h.mem _).2 h1)), List.length_append, h.len]
    rfl
  · rw [rowsC_next P hk, List.mem_append, List.mem_append, h.mem]
  · rcases List.mem_append.1 hr with h1 | h1
    · exact h.rows r h1
    · rw [List.mem_singleton.1 h1]
      exact rowC_len _ _
theorem Found.done {P : List Wg} {n : Nat} {F : List (List Int)} (h3 : P.length ≤ 3) (h : Found P n (n * 2 + 1) F) : F.length = possN P n := by
  rw [h.len, List.take_of_length_le (by rw [rowsC_length]; omega), possN_rows h3]
/-- A list of one list. -/
theorem OwnT.lit {base : Nat} {w : World} {A : Option Addr} {n c : Nat} {r : List Int} (hI : Ints w A r) (hn : r.length = n) (hm : n ≤ maxLen) (hb : base ≤ w.heap.size) (hf : ∀ b o, A = some ⟨b, o, none⟩ → b < w.heap.size ∧ base ≤ b) :
    OwnT base (w.alloc (.cells #[.slice A n c] 28)) (.slice (some ⟨w.heap.size, 0, none⟩) 1 1) [r] := by
  refine ⟨[.slice A n c], World.ownsRow_lit w #[.slice A n c] 1 hb (by unfold maxLen; omega) rfl, rfl, fun j ns hj => ?_⟩
  obtain rfl : j = 0 := by
    have := (List.getElem?_eq_some_iff.1 hj).1
    simp at this
    omega
  simp at hj
  subst hj
  refine ⟨A, n, c, rfl, hI.bel ((Bel.refl w).alloc _), hn, hm, fun b o hA => ⟨by have := (hf b o hA).1; simp; omega, fun e => ?_, (hf b o hA).2⟩⟩
  have e' : some w.heap.size = some b := e
  injection e' with e'
  have := (hf b o hA).1
  omega
theorem not_mem_take {F : List (List Int)} {r ns : List Int} {j : Nat} (hg : F[j]? = some ns) : decide (r ∉ F.take (j + 1)) = (decide (r ∉ F.take j) && !(decide (ns = r))) := by
  rw [take_at hg, Bool.eq_iff_iff, Bool.and_eq_true, decide_eq_true_iff, decide_eq_true_iff, List.mem_append, List.mem_singleton]
  constructor
  · intro h
    exact ⟨fun h1 => h (.inl h1), by simpa using fun e : ns = r => h (.inr e.symm)⟩
  · rintro ⟨h1, h2⟩ (h | h)
    · exact h1 h
    · simp at h2
      exact h2 h.symm
end Go.Proofs.Ytmckoehkekkldaa
