/- Merge: what the two paints were before, plain facts. -/
import Derived.Test.YtcndmfkbfimllaaBG
namespace Go.Proofs.Ytcndmfkbfimllaa
open Go.RowKit Go.Maps

theorem mem_old {a b x y : Nat} (hab : a < b) : y ∈ oldL a b x ↔ mgd y a b = x := by
  unfold oldL mgd
  split
  · simp only [List.mem_cons, List.not_mem_nil, or_false]
    split
    · omega
    · split <;> omega
  · split
    · simp only [List.mem_cons, List.not_mem_nil, or_false]
      split
      · omega
      · split <;> omega
    · simp only [List.mem_cons, List.not_mem_nil, or_false]
      split
      · omega
      · split <;> omega
theorem hasG_iff {G : List (Nat × Nat)} {a b : Nat} : hasG G a b = true ↔ (min a b, max a b) ∈ G := by unfold hasG; exact inG_iff
/-- Two paints of the new shop have a feud just if some old ones had. -/
def oldB (G : List (Nat × Nat)) (f1 f2 a b : Nat) : Bool := (oldL f1 f2 a).any fun x => (oldL f1 f2 b).any fun y => hasG G x y
theorem old_has {G : List (Nat × Nat)} {f1 f2 a b : Nat} (hf : f1 < f2) (hG : ∀ e ∈ G, e.1 < e.2) (hab : a < b) : oldB G f1 f2 a b = hasG (G.map (mgF (f1, f2))) a b := by
  rw [Bool.eq_iff_iff, hasG_iff]
  unfold oldB
  rw [List.any_eq_true]
  simp only [List.any_eq_true, hasG_iff, mem_old hf, List.mem_map]
  rw [Nat.min_eq_left (by omega), Nat.max_eq_right (by omega)]
  constructor
  · rintro ⟨x, hx, y, hy, h⟩
    refine ⟨_, h, ?_⟩
    unfold mgF
    rcases Nat.le_total x y with hxy | hxy
    · rw [Nat.min_eq_left hxy, Nat.max_eq_right hxy]
      simp only [hx, hy]
      rw [Nat.min_eq_left (by omega), Nat.max_eq_right (by omega)]
    · rw [Nat.min_eq_right hxy, Nat.max_eq_left hxy]
      simp only [hx, hy]
      rw [Nat.min_eq_right (by omega), Nat.max_eq_left (by omega)]
  · rintro ⟨⟨x, y⟩, he, h⟩
    have hxy := hG _ he
    simp only at hxy
    unfold mgF at h
    simp only [Prod.mk.injEq] at h
    obtain ⟨h1, h2⟩ := h
    rcases Nat.le_total (mgd x f1 f2) (mgd y f1 f2) with hm | hm
    · rw [Nat.min_eq_left hm] at h1
      rw [Nat.max_eq_right hm] at h2
      exact ⟨x, h1, y, h2, by rw [Nat.min_eq_left (by omega), Nat.max_eq_right (by omega)]; exact he⟩
    · rw [Nat.min_eq_right hm] at h1
      rw [Nat.max_eq_left hm] at h2
      exact ⟨y, h1, x, h2, by rw [Nat.min_eq_right (by omega), Nat.max_eq_left (by omega)]; exact he⟩
theorem any_step {α : Type} {l : List α} {i : Nat} {x : α} {f : α → Bool} (h : l[i]? = some x) : (l.take (i + 1)).any f = ((l.take i).any f || f x) := by
  rw [take_at h, List.any_append]
  simp
theorem any_all {α : Type} {l : List α} {i : Nat} {f : α → Bool} (h : l.length ≤ i) : (l.take i).any f = l.any f := by rw [List.take_of_length_le h]
theorem oldL_len (a b x : Nat) : (oldL a b x).length ≤ 2 := by
  unfold oldL
  split
  · simp
  · split <;> simp
end Go.Proofs.Ytcndmfkbfimllaa
