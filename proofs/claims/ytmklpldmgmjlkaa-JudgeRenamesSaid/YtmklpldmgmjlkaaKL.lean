/- Left, Grade and State: the document's and the program's. -/
import Derived.Test.YtmklpldmgmjlkaaKK
import Derived.Test.YtmklpldmgmjlkaaKD
namespace Go.Proofs.Ytmklpldmgmjlkaa
open Go.RowKit

theorem countL_at {L : List An} {g k : Nat} {v : Int} (h : (countL L g)[k]? = some v) : k < g ∧ v = cntI L k := by
  unfold countL at h
  simp only [List.getElem?_map, Option.map_eq_some_iff] at h
  obtain ⟨i, hi, rfl⟩ := h
  obtain ⟨hl, e⟩ := List.getElem?_eq_some_iff.1 hi
  simp at hl e
  subst e
  exact ⟨hl, rfl⟩

/-- What Left refuses. -/
def errL (g : Int) (L : List An) (lies : Int) : Int := if errA g L = 0 then if 0 ≤ lies ∧ lies ≤ 12 then 0 else 1 else errA g L
theorem errL_bad {g : Int} {L : List An} {lies : Int} (h : errA g L ≠ 0) : errL g L lies = errA g L := if_neg h
theorem errL_lies {g : Int} {L : List An} {lies : Int} (h : errA g L = 0) (h2 : ¬ (0 ≤ lies ∧ lies ≤ 12)) : errL g L lies = 1 := by unfold errL; rw [if_pos h, if_neg h2]
theorem errL_ok {g : Int} {L : List An} {lies : Int} (h : errA g L = 0) (h2 : 0 ≤ lies ∧ lies ≤ 12) : errL g L lies = 0 := by unfold errL; rw [if_pos h, if_pos h2]
theorem errL_zero {g : Int} {L : List An} {lies : Int} (h : errL g L lies = 0) : errA g L = 0 ∧ 0 ≤ lies ∧ lies ≤ 12 := by
  unfold errL at h
  split at h
  · split at h
    · exact ⟨by assumption, by assumption⟩
    · omega
  · exact absurd h (by assumption)
end Go.Proofs.Ytmklpldmgmjlkaa

