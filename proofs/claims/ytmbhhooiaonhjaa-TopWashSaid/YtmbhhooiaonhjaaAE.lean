/- Plain facts on lots, masses by size and moments. -/
import Derived.Test.YtmbhhooiaonhjaaAD
namespace Go.Proofs.Ytmbhhooiaonhjaa

theorem massF_gt {last : Int} {gs : List (Int × Int)} (h : scan last gs = true) {k : Nat} (hk : (k : Int) ≤ last) : massF gs k = 0 := by
  induction gs generalizing last with
  | nil => rfl
  | cons g r ih =>
    simp only [scan, Bool.and_eq_true, decide_eq_true_eq] at h
    have e : massF (g :: r) k = (if g.1 = (k : Int) then g.2 else 0) + massF r k := by simp [massF]
    have := h.1.1.1.1
    rw [e, if_neg (by omega), ih h.2 (by omega)]
    rfl
theorem takeWhile_gt {last : Int} {gs : List (Int × Int)} (h : scan last gs = true) {k : Int} (hk : k ≤ last + 1) : gs.takeWhile (fun g => decide (g.1 < k)) = [] := by
  cases gs with
  | nil => rfl
  | cons g r =>
    simp only [scan, Bool.and_eq_true, decide_eq_true_eq] at h
    have := h.1.1.1.1
    simp [show ¬ g.1 < k by omega]
theorem takeWhile_step {last : Int} {gs : List (Int × Int)} (h : scan last gs = true) (k : Nat) :
    gs.takeWhile (fun g => decide (g.1 < ((k + 1 : Nat) : Int))) = gs.takeWhile (fun g => decide (g.1 < (k : Int))) ++ if massF gs k ≠ 0 then [((k : Int), massF gs k)] else [] := by
  induction gs generalizing last with
  | nil => simp [massF]
  | cons g r ih =>
    have h0 := h
    simp only [scan, Bool.and_eq_true, decide_eq_true_eq] at h
    have e : massF (g :: r) k = (if g.1 = (k : Int) then g.2 else 0) + massF r k := by simp [massF]
    have h2 := h.1.1.2
    rcases Int.lt_trichotomy g.1 (k : Int) with a | a | a
    · have e' : massF (g :: r) k = massF r k := by rw [e, if_neg (by omega), Int.zero_add]
      rw [e']
      have c1 : g.1 < ((k + 1 : Nat) : Int) := by omega
      simp only [List.takeWhile_cons, c1, a, decide_true, if_true, List.cons_append]
      rw [ih h.2]
    · have hm : massF r k = 0 := massF_gt h.2 (by omega)
      have e' : massF (g :: r) k = g.2 := by rw [e, if_pos a, hm, Int.add_zero]
      rw [e']
      have c1 : g.1 < ((k + 1 : Nat) : Int) := by omega
      have c2 : ¬ g.1 < (k : Int) := by omega
      have c3 : r.takeWhile (fun g => decide (g.1 < ((k + 1 : Nat) : Int))) = [] := takeWhile_gt h.2 (by omega)
      have c4 : g.2 ≠ 0 := by omega
      simp only [List.takeWhile_cons, c1, c2, decide_true, decide_false, if_true, c3]
      rw [if_pos c4]
      obtain ⟨x, y⟩ := g
      simp only at a
      subst a
      simp
    · have hm : massF r k = 0 := massF_gt h.2 (by omega)
      have c2 : ¬ g.1 < (k : Int) := by omega
      have e' : massF (g :: r) k = 0 := by rw [e, if_neg (by omega), hm]; rfl
      rw [e']
      have c3 : ¬ g.1 < (k : Int) + 1 := by omega
      simp [c3, c2]
theorem lotN_takeWhile {gs : List (Int × Int)} (h : scan 0 gs = true) (k : Nat) : lotN (massF gs) k = gs.takeWhile fun g => decide (g.1 < (k : Int)) := by
  induction k with
  | zero => rw [takeWhile_gt h (by simp)]; rfl
  | succ k ih => rw [lotN_succ, ih, takeWhile_step h k]
theorem takeWhile_all {α : Type} {p : α → Bool} {l : List α} (h : ∀ x ∈ l, p x = true) : l.takeWhile p = l := by
  induction l with
  | nil => rfl
  | cons x r ih => rw [List.takeWhile_cons, if_pos (h x (by simp)), ih fun y hy => h y (by simp [hy])]
/-- A valid lot is what its masses make. -/
theorem canon {gs : List (Int × Int)} (h : errV gs = 0) : lotF (massF gs) = gs := by
  have hs := scan_of h
  unfold lotF
  rw [lotN_takeWhile hs]
  have hm := fit_of gs h
  refine takeWhile_all fun g hg => ?_
  have := hm g hg
  simp
  omega
theorem lotF_congr {f f' : Nat → Int} (h : ∀ i, i < 21 → f i = f' i) : lotF f = lotF f' := by
  unfold lotF
  have : ∀ k, k ≤ 21 → lotN f k = lotN f' k := by
    intro k
    induction k with
    | zero => intro _; rfl
    | succ k ih => intro hk; rw [lotN_succ, lotN_succ, ih (by omega), h k (by omega)]
  exact this 21 (Nat.le_refl _)
theorem lot_ext {gs hs : List (Int × Int)} (h1 : errV gs = 0) (h2 : errV hs = 0) (h : ∀ i, i < 21 → massF gs i = massF hs i) : gs = hs := by
  rw [← canon h1, ← canon h2, lotF_congr h]
theorem massF_of_sumB {gs hs : List (Int × Int)} (h1 : Fit gs) (h2 : Fit hs) (h : ∀ i : Nat, i < 21 → sumB gs i = sumB hs i) : ∀ i, i < 21 → massF gs i = massF hs i := by
  intro i hi
  have a := sumB_step gs i
  have b := sumB_step hs i
  have c := h i hi
  cases i with
  | zero => rw [massF_zero h1, massF_zero h2]
  | succ k =>
    have d := h k (by omega)
    have e : ((k + 1 : Nat) : Int) - 1 = (k : Int) := by omega
    rw [e] at a b
    omega
/-- Finer both ways is equal. -/
theorem fin_anti {gs hs : List (Int × Int)} (h1 : errV gs = 0) (h2 : errV hs = 0) (a : finB gs hs = true) : finB hs gs = decide (gs = hs) := by
  by_cases e : gs = hs
  · subst e
    rw [decide_eq_true rfl]
    exact a
  · rw [decide_eq_false e]
    rw [Bool.eq_false_iff]
    intro b
    refine e (lot_ext h1 h2 (massF_of_sumB (fit_of gs h1) (fit_of hs h2) fun i hi => ?_))
    have := finB_iff.1 a i hi
    have := finB_iff.1 b i hi
    omega
/-- The sum of a function over the first k numbers. -/
def sumTo (f : Nat → Int) : Nat → Int
  | 0 => 0
  | k + 1 => sumTo f k + f k
theorem sumTo_add (f g : Nat → Int) (k : Nat) : sumTo (fun i => f i + g i) k = sumTo f k + sumTo g k := by
  induction k with
  | zero => rfl
  | succ k ih => simp only [sumTo, ih]; omega
theorem sumTo_le {f g : Nat → Int} (k : Nat) (h : ∀ i, i < k → f i ≤ g i) : sumTo f k ≤ sumTo g k := by
  induction k with
  | zero => exact Int.le_refl _
  | succ k ih =>
    have := ih fun i hi => h i (by omega)
    have := h k (by omega)
    simp only [sumTo]
    omega
theorem sumTo_one {s m : Int} (h0 : 0 ≤ s) (k : Nat) : sumTo (fun i => if s ≤ (i : Int) then 0 else m) k = (if s ≤ (k : Int) then s else (k : Int)) * m := by
  induction k with
  | zero =>
    by_cases h : s ≤ 0
    · have : s = 0 := by omega
      subst this
      simp [sumTo]
    · simp [sumTo, h]
  | succ k ih =>
    simp only [sumTo, ih]
    by_cases a : s ≤ (k : Int)
    · rw [if_pos a, if_pos a, if_pos (by omega)]; omega
    · rw [if_neg a, if_neg a]
      by_cases b : s ≤ ((k + 1 : Nat) : Int)
      · rw [if_pos b]
        have : s = (k : Int) + 1 := by omega
        rw [this, Int.add_mul, Int.one_mul]
      · rw [if_neg b]
        have : ((k + 1 : Nat) : Int) = (k : Int) + 1 := by omega
        rw [this, Int.add_mul, Int.one_mul]
/-- The moment by what is of at most each size. -/
theorem sumS_eq {gs : List (Int × Int)} (h : Fit gs) : sumS gs = sumTo (fun i => sumM gs - sumB gs i) 21 := by
  induction gs with
  | nil => simp [sumS, sumM, sumB, sumTo]
  | cons g r ih =>
    have h2 := h g (by simp)
    have e1 : sumS (g :: r) = g.1 * g.2 + sumS r := by simp [sumS]
    have e2 : ∀ i : Nat, sumM (g :: r) - sumB (g :: r) i = (if g.1 ≤ (i : Int) then 0 else g.2) + (sumM r - sumB r i) := by
      intro i
      have a : sumM (g :: r) = g.2 + sumM r := by simp [sumM]
      have b : sumB (g :: r) i = (if g.1 ≤ (i : Int) then g.2 else 0) + sumB r i := by simp [sumB]
      rw [a, b]
      split <;> omega
    have e3 : sumTo (fun i => sumM (g :: r) - sumB (g :: r) i) 21 = sumTo (fun i => (if g.1 ≤ ((i : Nat) : Int) then 0 else g.2) + (sumM r - sumB r i)) 21 := congrArg (fun f => sumTo f 21) (funext e2)
    rw [e1, e3, sumTo_add, ← ih fun x hx => h x (by simp [hx]), sumTo_one (by omega), if_pos (by omega)]
/-- The moment of a finer lot is not greater. -/
theorem fin_sumS {gs hs : List (Int × Int)} (h1 : Fit gs) (h2 : Fit hs) (hm : sumM gs = sumM hs) (a : finB gs hs = true) : sumS gs ≤ sumS hs := by
  rw [sumS_eq h1, sumS_eq h2]
  refine sumTo_le 21 fun i hi => ?_
  have := finB_iff.1 a i hi
  omega
end Go.Proofs.Ytmbhhooiaonhjaa

