/- Plain: the plan of a table of marks, FromMarks' errors. -/
import Derived.Test.YtmckoehkekkldaaAN
namespace Go.Proofs.Ytmckoehkekkldaa
open Go.RowKit

/-- The number of lot x in weighing j. -/
def entT (T : List (List Int)) (j x : Nat) : Int := (T.getD x []).getD j 0
/-- The lots of which f holds, from the smallest. -/
def lotsF (f : Nat → Bool) (n : Nat) : List Int := ((List.range n).filter f).map fun x : Nat => (x : Int)
/-- The plan of which the table holds the marks. -/
def planT (T : List (List Int)) (q : Nat) : List Wg := (List.range q).map fun j => (lotsF (fun x => entT T j x == 1) T.length, lotsF (fun x => entT T j x == -1) T.length)
def colS (T : List (List Int)) (j : Nat) : Nat → Int
  | 0 => 0
  | n + 1 => colS T j n + entT T j n
/-- The weighings of a table. -/
def wide (T : List (List Int)) : Nat := (T.getD 0 []).length
/-- The error of FromMarks. -/
def errF (T : List (List Int)) : Int :=
  if (decide (1 ≤ T.length ∧ T.length ≤ 13) && !T.any fun l => decide (3 < l.length)) = true then
    (if (T.any fun l => l.length != wide T || !sidesB l) = true then 1 else if ((List.range (wide T)).any fun j => colS T j T.length != 0) = true then 5 else 0)
  else 3
theorem setB_sorted {n : Int} {l : List Int} (hs : l.Pairwise (· < ·)) (hr : ∀ x ∈ l, 0 ≤ x ∧ x < n) : setB n l = true := by
  unfold setB setTo
  rw [List.all_eq_true]
  intro i hi
  have hi := List.mem_range.1 hi
  have e1 : l[i]? = some l[i] := List.getElem?_eq_getElem hi
  have h1 := hr _ (List.mem_of_getElem? e1)
  unfold okAt
  rw [getD_of e1, decide_eq_true h1.1, decide_eq_true h1.2]
  by_cases h0 : i = 0
  · simp [h0]
  · have e2 : l[i - 1]? = some (l[i - 1]'(by omega)) := List.getElem?_eq_getElem (by omega)
    rw [getD_of e2]
    have := List.pairwise_iff_getElem.1 hs (i - 1) i (by omega) hi (by omega)
    simp [this]
theorem lotsF_sorted (f : Nat → Bool) (n : Nat) : (lotsF f n).Pairwise (· < ·) := by
  unfold lotsF
  rw [List.pairwise_map]
  exact (List.pairwise_lt_range.filter f).imp fun h => by omega
theorem lotsF_mem (f : Nat → Bool) (n : Nat) (v : Int) : v ∈ lotsF f n ↔ ∃ x : Nat, v = (x : Int) ∧ x < n ∧ f x = true := by
  unfold lotsF
  simp only [List.mem_map, List.mem_filter, List.mem_range]
  exact ⟨fun ⟨x, h, e⟩ => ⟨x, e.symm, h.1, h.2⟩, fun ⟨x, e, h1, h2⟩ => ⟨x, ⟨h1, h2⟩, e.symm⟩⟩
theorem lotsF_at (f : Nat → Bool) {n x : Nat} (hx : x < n) : hasB (lotsF f n) (x : Int) = f x := by
  cases hf : f x
  · cases hh : hasB (lotsF f n) (x : Int)
    · rfl
    · obtain ⟨y, e, _, h2⟩ := (lotsF_mem f n _).1 (hasB_iff.1 hh)
      obtain rfl : x = y := by omega
      rw [hf] at h2
      cases h2
  · exact hasB_iff.2 ((lotsF_mem f n _).2 ⟨x, rfl, hx, hf⟩)
theorem lotsF_succ (f : Nat → Bool) (n : Nat) : (lotsF f (n + 1)).length = (lotsF f n).length + (if f n = true then 1 else 0) := by
  unfold lotsF
  rw [List.range_succ, List.filter_append]
  by_cases h : f n = true <;> simp [h]
theorem lotsF_set (f : Nat → Bool) (n : Nat) : setB (n : Int) (lotsF f n) = true := setB_sorted (lotsF_sorted f n) fun v hv => by
  obtain ⟨x, rfl, h, _⟩ := (lotsF_mem f n v).1 hv
  omega
theorem colS_lots (T : List (List Int)) (j : Nat) (hT : ∀ x, -1 ≤ entT T j x ∧ entT T j x ≤ 1) : ∀ n, colS T j n = ((lotsF (fun x => entT T j x == 1) n).length : Int) - ((lotsF (fun x => entT T j x == -1) n).length : Int)
  | 0 => rfl
  | n + 1 => by
    rw [colS, colS_lots T j hT n, lotsF_succ, lotsF_succ]
    have := hT n
    rcases (by omega : entT T j n = -1 ∨ entT T j n = 0 ∨ entT T j n = 1) with e | e | e <;> simp [e] <;> omega
theorem rowT_at {T : List (List Int)} {x : Nat} {l : List Int} (e : T[x]? = some l) : T.getD x [] = l := by
  rw [List.getD_eq_getElem?_getD, e, Option.getD_some]
theorem rowT_none {T : List (List Int)} {x : Nat} (e : ¬ x < T.length) : T.getD x [] = [] := by
  rw [List.getD_eq_getElem?_getD, List.getElem?_eq_none (by omega)]
  rfl
structure GoodT (T : List (List Int)) : Prop where
  pos : 1 ≤ T.length
  le : T.length ≤ 13
  few : wide T ≤ 3
  rows : ∀ l ∈ T, l.length = wide T ∧ sidesB l = true
  sums : ∀ j, j < wide T → colS T j T.length = 0
theorem errF_good {T : List (List Int)} (h : errF T = 0) : GoodT T := by
  unfold errF at h
  split at h
  · rename_i h1
    simp only [Bool.and_eq_true, decide_eq_true_eq, Bool.not_eq_true', List.any_eq_false] at h1
    split at h
    · cases h
    · rename_i h2
      simp only [List.any_eq_true, not_exists, not_and, Bool.not_eq_true, Bool.or_eq_false_iff, Bool.not_eq_false', bne_eq_false_iff_eq] at h2
      split at h
      · cases h
      · rename_i h3
        simp only [List.any_eq_true, not_exists, not_and, Bool.not_eq_true, bne_eq_false_iff_eq, List.mem_range] at h3
        refine ⟨h1.1.1, h1.1.2, ?_, h2, h3⟩
        have e : T[0]? = some (T[0]'(by omega)) := List.getElem?_eq_getElem (by omega)
        have := h1.2 _ (List.mem_of_getElem? e)
        unfold wide
        rw [List.getD_eq_getElem?_getD, e]
        simpa using this
  · cases h
theorem GoodT.ent {T : List (List Int)} (h : GoodT T) (j x : Nat) : -1 ≤ entT T j x ∧ entT T j x ≤ 1 := by
  unfold entT
  by_cases hx : x < T.length
  · have e : T[x]? = some T[x] := List.getElem?_eq_getElem hx
    rw [rowT_at e]
    have hs := (h.rows _ (List.mem_of_getElem? e)).2
    by_cases hj : j < T[x].length
    · have e2 : T[x][j]? = some T[x][j] := List.getElem?_eq_getElem hj
      rw [getD_of e2]
      simpa [sideOk] using List.all_eq_true.1 hs _ (List.mem_of_getElem? e2)
    · rw [List.getD_eq_getElem?_getD, List.getElem?_eq_none (by omega)]
      simp
  · rw [rowT_none hx]
    simp
theorem planT_length (T : List (List Int)) (q : Nat) : (planT T q).length = q := by simp [planT]
theorem GoodT.good {T : List (List Int)} (h : GoodT T) : Good T.length (planT T (wide T)) := by
  refine ⟨h.pos, h.le, by rw [planT_length]; exact h.few, fun p hp => ?_⟩
  obtain ⟨j, hj, rfl⟩ := List.mem_map.1 hp
  have hj := List.mem_range.1 hj
  refine ⟨lotsF_set _ _, lotsF_set _ _, fun v hv => ?_, ?_⟩
  · obtain ⟨x, rfl, hx, h1⟩ := (lotsF_mem _ _ _).1 hv
    rw [lotsF_at _ hx]
    simp only [beq_iff_eq] at h1
    rw [h1]
    decide
  · have h1 := colS_lots T j (h.ent j) T.length
    rw [h.sums j hj] at h1
    show (lotsF _ _).length = (lotsF _ _).length
    omega
theorem GoodT.marks {T : List (List Int)} (h : GoodT T) : marksT (planT T (wide T)) T.length = T := by
  apply List.ext_getElem?
  intro x
  by_cases hx : x < T.length
  · rw [marksT_at _ hx]
    have e : T[x]? = some T[x] := List.getElem?_eq_getElem hx
    have hl := (h.rows _ (List.mem_of_getElem? e)).1
    rw [e]
    congr 1
    unfold markL planT
    rw [List.map_map]
    apply List.ext_getElem (by simp [hl])
    intro j h1 h2
    simp only [List.getElem_map, List.getElem_range, Function.comp]
    unfold sd
    rw [lotsF_at _ hx, lotsF_at _ hx]
    have he : entT T j x = T[x][j] := by
      unfold entT
      rw [rowT_at e, getD_of (List.getElem?_eq_getElem h2)]
    have := h.ent j x
    rw [he] at this ⊢
    rcases (by omega : T[x][j] = -1 ∨ T[x][j] = 0 ∨ T[x][j] = 1) with e | e | e <;> simp [e]
  · rw [List.getElem?_eq_none (by rw [marksT_length]; omega), List.getElem?_eq_none (by omega)]
end Go.Proofs.Ytmckoehkekkldaa
