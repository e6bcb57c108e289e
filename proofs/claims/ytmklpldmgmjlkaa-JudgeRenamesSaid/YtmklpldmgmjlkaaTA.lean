/- Answers turned: plain facts. -/
import Derived.Test.YtmklpldmgmjlkaaRB
namespace Go.Proofs.Ytmklpldmgmjlkaa
open Go.RowKit

/-- The grades that are not named. -/
def othersL (ns : List Int) (g : Nat) : List Int := ((List.range g).filter fun (i : Nat) => !hasB ns (i : Int)).map fun (i : Nat) => (i : Int)
theorem othersL_snoc (ns : List Int) (k : Nat) : othersL ns (k + 1) = othersL ns k ++ if hasB ns (k : Int) = true then [] else [(k : Int)] := by
  unfold othersL
  rw [List.range_succ, List.filter_append, List.map_append]
  cases h : hasB ns (k : Int) <;> simp [h]
theorem othersL_len (ns : List Int) (k : Nat) : (othersL ns k).length ≤ k := by
  unfold othersL
  rw [List.length_map]
  have := List.length_filter_le (fun i => !hasB ns ((i : Nat) : Int)) (List.range k)
  simpa using this
theorem othersL_has {ns : List Int} {g i : Nat} (h : i < g) : hasB (othersL ns g) (i : Int) = !hasB ns (i : Int) := by
  rw [Bool.eq_iff_iff, hasB_iff]
  unfold othersL
  simp only [List.mem_map, List.mem_filter, List.mem_range]
  constructor
  · rintro ⟨a, ⟨_, h2⟩, h3⟩
    have : a = i := by omega
    subst this
    exact h2
  · intro h2
    exact ⟨i, ⟨h, h2⟩, rfl⟩
theorem scanI_append {last below x : Int} : ∀ {l : List Int}, scanI last x l = true → last < x → x < below → scanI last below (l ++ [x]) = true
  | [], _, h2, h3 => by simp [scanI, h2, h3]
  | y :: l, h1, h2, h3 => by
    simp only [scanI, Bool.and_eq_true, decide_eq_true_eq] at h1
    simp only [List.cons_append, scanI, Bool.and_eq_true, decide_eq_true_eq]
    exact ⟨⟨h1.1.1, by omega⟩, scanI_append h1.2 h1.1.2 h3⟩
theorem scanI_mono {x y : Int} (hxy : x ≤ y) : ∀ {l : List Int} {last : Int}, scanI last x l = true → scanI last y l = true
  | [], _, _ => rfl
  | z :: l, last, h => by
    simp only [scanI, Bool.and_eq_true, decide_eq_true_eq] at h ⊢
    exact ⟨⟨h.1.1, by omega⟩, scanI_mono (last := z) hxy h.2⟩
theorem othersL_set (ns : List Int) (g : Nat) : setB (othersL ns g) (g : Int) = true := by
  unfold setB
  induction g with
  | zero => rfl
  | succ k ih =>
    rw [othersL_snoc]
    cases hasB ns (k : Int)
    · exact scanI_append ih (by omega) (by omega)
    · simp only [if_true, List.append_nil]
      exact scanI_mono (last := -1) (by omega) ih
/-- Answers with the other grades named. -/
def turnA (g : Nat) (a : An) : An := (othersL a.1 g, !a.2)
def turnL (g : Nat) (L : List An) : List An := L.map (turnA g)
theorem turnL_length (g : Nat) (L : List An) : (turnL g L).length = L.length := by simp [turnL]
theorem turnL_at {g : Nat} {L : List An} {k : Nat} {ns : List Int} {y : Bool} (h : L[k]? = some (ns, y)) : (turnL g L)[k]? = some (othersL ns g, !y) := by
  simp [turnL, turnA, h]
theorem turnL_valid {g : Nat} {L : List An} (h : errA (g : Int) L = 0) : errA (g : Int) (turnL g L) = 0 := by
  obtain ⟨h1, h2, _⟩ := errA_zero h
  unfold errA
  rw [if_pos h1, if_neg (by rw [turnL_length]; omega), if_pos]
  unfold setsB turnL
  rw [List.all_map, List.all_eq_true]
  exact fun a _ => othersL_set a.1 g
theorem turnL_cnt {g i : Nat} (L : List An) (h : i < g) : cntI (turnL g L) i = cntI L i := by
  unfold cntI turnL
  rw [List.filter_map, List.length_map]
  have : ((fun a => ag a (i : Int)) ∘ turnA g) = fun a => ag a (i : Int) := by
    funext a
    simp only [Function.comp, ag, turnA]
    rw [othersL_has h]
    cases a.2 <;> cases hasB a.1 (i : Int) <;> rfl
  rw [this]
theorem turnL_count (g : Nat) (L : List An) : countL (turnL g L) g = countL L g := by
  unfold countL
  refine List.map_congr_left fun i hi => ?_
  exact turnL_cnt L (List.mem_range.1 hi)
end Go.Proofs.Ytmklpldmgmjlkaa

