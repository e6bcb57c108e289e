/- Two lots compared; masses of joined lots. -/
import Derived.Test.YtmbhhooiaonhjaaAF
namespace Go.Proofs.Ytmbhhooiaonhjaa
open Go.RowKit

/-- The masses of two lots together. -/
def joinF (gs hs : List (Int × Int)) : Nat → Int := fun i => massF gs i + massF hs i
theorem joinF_comm (gs hs : List (Int × Int)) : joinF gs hs = joinF hs gs := funext fun _ => Int.add_comm _ _
theorem massF_append (gs hs : List (Int × Int)) (i : Nat) : massF (gs ++ hs) i = massF gs i + massF hs i := by simp [massF, List.sum_append]
theorem massF_lotN (f : Nat → Int) (k i : Nat) : massF (lotN f k) i = if i < k then f i else 0 := by
  induction k with
  | zero => simp [lotN, massF]
  | succ k ih =>
    rw [lotN_succ, massF_append, ih]
    by_cases h : f k = 0
    · have e : massF (if f k ≠ 0 then [((k : Int), f k)] else []) i = 0 := by rw [if_neg (by simpa using h)]; rfl
      rw [e]
      by_cases a : i < k
      · rw [if_pos a, if_pos (by omega)]; omega
      · rw [if_neg a]
        by_cases b : i = k
        · subst b; rw [if_pos (by omega), h]; rfl
        · rw [if_neg (by omega)]; rfl
    · have e : massF (if f k ≠ 0 then [((k : Int), f k)] else []) i = if (k : Int) = (i : Int) then f k else 0 := by rw [if_pos h]; simp [massF]
      rw [e]
      by_cases b : i = k
      · subst b
        simp
      · have b' : ¬ (k : Int) = (i : Int) := by omega
        rw [if_neg b', Int.add_zero]
        by_cases a : i < k
        · rw [if_pos a, if_pos (by omega)]
        · rw [if_neg a, if_neg (by omega)]
theorem massF_lotF (f : Nat → Int) {i : Nat} (h : i < 21) : massF (lotF f) i = f i := by unfold lotF; rw [massF_lotN, if_pos h]
theorem sumB_clip {gs : List (Int × Int)} (h : Fit gs) {z : Int} (hz : 20 ≤ z) : sumB gs z = sumB gs 20 := by
  induction gs with
  | nil => rfl
  | cons g r ih =>
    have h2 := h g (by simp)
    have e1 : ∀ z, sumB (g :: r) z = (if g.1 ≤ z then g.2 else 0) + sumB r z := fun z => by simp [sumB]
    rw [e1, e1, ih fun x hx => h x (by simp [hx]), if_pos (by omega), if_pos (by omega)]
/-- What is of at most a size adds up. -/
theorem sumB_join {gs hs l : List (Int × Int)} (h1 : Fit gs) (h2 : Fit hs) (h3 : Fit l) (h : ∀ i, i < 21 → massF l i = joinF gs hs i) (z : Int) : sumB gs z + sumB hs z = sumB l z := by
  have key : ∀ k : Nat, k < 21 → sumB gs k + sumB hs k = sumB l k := by
    intro k
    induction k with
    | zero => intro _; rw [sumB_low h1 (by simp), sumB_low h2 (by simp), sumB_low h3 (by simp)]; rfl
    | succ k ih =>
      intro hk
      have a := ih (by omega)
      have b := h (k + 1) hk
      have c1 := sumB_step gs (k + 1)
      have c2 := sumB_step hs (k + 1)
      have c3 := sumB_step l (k + 1)
      have e : ((k + 1 : Nat) : Int) - 1 = (k : Int) := by omega
      rw [e] at c1 c2 c3
      unfold joinF at b
      omega
  by_cases a : z ≤ 0
  · rw [sumB_low h1 a, sumB_low h2 a, sumB_low h3 a]; rfl
  · by_cases b : 20 ≤ z
    · rw [sumB_clip h1 b, sumB_clip h2 b, sumB_clip h3 b]
      exact key 20 (by omega)
    · obtain ⟨k, rfl⟩ := Int.eq_ofNat_of_zero_le (by omega : 0 ≤ z)
      exact key k (by omega)
theorem joinF_bd {gs hs : List (Int × Int)} (h1 : errV gs = 0) (h2 : errV hs = 0) (i : Nat) : 0 ≤ joinF gs hs i := by
  have a := massF_bd i (fit_of gs h1).mass
  have b := massF_bd i (fit_of hs h2).mass
  unfold joinF
  omega
theorem joinF_zero {gs hs : List (Int × Int)} (h1 : Fit gs) (h2 : Fit hs) : joinF gs hs 0 = 0 := by
  unfold joinF
  rw [massF_zero h1, massF_zero h2]
  rfl
/-- Join's answer. -/
def JoinAns (w : World) (gs hs : List (Int × Int)) (e : Ending) (w' : World) : Prop :=
  (errB gs hs ≠ 0 ∧ e = .returned (.tuple #[.slice none 0 0, .int .i64 (errB gs hs)]) ∧ Bel w w') ∨ (errB gs hs = 0 ∧ LotAns w (lotF (joinF gs hs)) e w')
theorem LotAns.up {w w1 w' : World} {l : List (Int × Int)} {e : Ending} (h : LotAns w1 l e w') (hb : Bel w w1) : LotAns w l e w' := by
  rcases h with ⟨a, A, n, c, h1, h2, h3, h4, h5, h6⟩ | ⟨a, b, c⟩
  · exact .inl ⟨a, A, n, c, h1, h2, h3, h4, hb.trans h5, h6⟩
  · exact .inr ⟨a, b, hb.trans c⟩
theorem ret_none {a b : Int} (h : a = b) : Ending.returned (.tuple #[.slice none 0 0, .int .i64 a]) = .returned (.tuple #[.slice none 0 0, .int .i64 b]) := by rw [h]
end Go.Proofs.Ytmbhhooiaonhjaa

