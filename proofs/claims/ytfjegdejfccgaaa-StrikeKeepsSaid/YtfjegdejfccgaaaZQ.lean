/- Lengths of results, and the boxes of a law with a stock. -/
import Derived.Test.YtfjegdejfccgaaaZP
namespace Go.Proofs.Ytfjegdejfccgaaa
open Go.RowKit

theorem errW_zero {X Y : List (List Int)} {ws : List Int} (h : errW X Y ws = 0) : errS X Y = 0 := by
  rcases errW_cases X Y ws with ⟨a, _, _⟩ | k
  · exact a
  · rw [k] at h; cases h
theorem errT_zero {X Y : List (List Int)} {ws : List Int} (h : errT X Y ws = 0) : errS X Y = 0 := by
  rcases errT_cases X Y ws with ⟨a, _, _⟩ | k
  · exact a
  · rw [k] at h; cases h
theorem weighV_len (X Y : List (List Int)) (ws : List Int) : (weighV X Y ws).length ≤ 6 := by
  unfold weighV
  split
  · rename_i h
    have s := str_of (errW_zero h)
    have := s.x3; have := s.y3
    simp only [weighL, List.length_map, List.length_append]; omega
  · exact Nat.zero_le _
theorem inV_len (X Y : List (List Int)) (ts : List Int) : (inV X Y ts).length ≤ 4 := by
  unfold inV
  split
  · rename_i h
    have s := str_of (errT_zero h)
    have := s.e4
    simp only [inL, sumL, List.length_map, List.length_range]; omega
  · exact Nat.zero_le _
theorem outV_len (X Y : List (List Int)) (ts : List Int) : (outV X Y ts).length ≤ 4 := by
  unfold outV
  split
  · rename_i h
    have s := str_of (errT_zero h)
    have := s.e4
    simp only [outL, sumL, List.length_map, List.length_range]; omega
  · exact Nat.zero_le _
theorem shV_len (X Y : List (List Int)) (ts ks : List Int) : (shV X Y ts ks).length ≤ 3 := by
  unfold shV
  split
  · rename_i h
    have s := str_of (errT_zero (errR_cases h).1)
    have := s.x3
    have := shTo_len ts ks (limTo ts ks X.length) X.length
    omega
  · exact Nat.zero_le _
theorem errU_zero {X Y : List (List Int)} {ts ks : List Int} {r : Int} (h : errU X Y ts ks r = 0) : errR X Y ts ks = 0 := by
  by_cases k : errR X Y ts ks = 0
  · exact k
  · rw [errU_bad k] at h; exact h
theorem leftV_len (X Y : List (List Int)) (ts ks : List Int) (r : Int) : (leftV X Y ts ks r).length ≤ 3 := by
  unfold leftV
  split
  · rename_i h
    have s := str_of (errT_zero (errR_cases (errU_zero h)).1)
    have := s.x3
    simp only [leftL, List.length_map, List.length_range]; omega
  · exact Nat.zero_le _
theorem madeV_len (X Y : List (List Int)) (ts ks : List Int) (r : Int) : (madeV X Y ts ks r).length ≤ 3 := by
  unfold madeV
  split
  · rename_i h
    have s := str_of (errT_zero (errR_cases (errU_zero h)).1)
    have := s.y3
    simp only [madeL, List.length_map, List.length_range]; omega
  · exact Nat.zero_le _
theorem limV_ok {X Y : List (List Int)} {ts ks : List Int} (h : errR X Y ts ks = 0) : limV X Y ts ks = limTo ts ks X.length := by unfold limV; rw [if_pos h]
theorem box_st {w w' : World} {A B T K : Option Addr} {n c m d t u k v : Nat} {r : Int} {ty ty2 : TypeId} (h : Bel ((w.alloc (.cells #[.slice A n c, .slice B m d] ty)).alloc (.cells #[.slice T t u, .slice K k v, .int .i64 r] ty2)) w') :
    w'.cell? ⟨w.heap.size, 0, none⟩ = some (.slice A n c) ∧ w'.cell? ⟨w.heap.size, 1, none⟩ = some (.slice B m d) ∧ w'.cell? ⟨w.heap.size + 1, 0, none⟩ = some (.slice T t u) ∧ w'.cell? ⟨w.heap.size + 1, 1, none⟩ = some (.slice K k v) ∧ w'.cell? ⟨w.heap.size + 1, 2, none⟩ = some (.int .i64 r) := by
  refine ⟨?_, ?_, ?_, ?_, ?_⟩ <;> (rw [h.use.1 _ _ (by simp <;> omega)]; go_simp)
end Go.Proofs.Ytfjegdejfccgaaa
