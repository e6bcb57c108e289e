/- Sums of two balances. -/
import Derived.Test.YtfjegdejfccgaaaZQ
namespace Go.Proofs.Ytfjegdejfccgaaa
open Go.RowKit

def addTo (ts os : List Int) (k : Nat) : List Int := (List.range k).map fun i => ts.getD i 0 + os.getD i 0
theorem add_step {ts os : List Int} {q : Nat} {x y : Int} (hx : ts[q]? = some x) (hy : os[q]? = some y) : addTo ts os (q + 1) = addTo ts os q ++ [x + y] := by
  unfold addTo
  rw [List.range_succ, List.map_append]
  simp [List.getD_eq_getElem?_getD, hx, hy]
theorem addTo_len (ts os : List Int) (k : Nat) : (addTo ts os k).length = k := by simp [addTo]
theorem addTo_at {ts os : List Int} {k i : Nat} (h : i < k) : (addTo ts os k).getD i 0 = ts.getD i 0 + os.getD i 0 := by
  simp [addTo, List.getD_eq_getElem?_getD, h]
theorem dot_add (C : List (List Int)) (ts os : List Int) (k e : Nat) : ∀ n, n ≤ k → dotTo C (addTo ts os k) e n = dotTo C ts e n + dotTo C os e n := by
  intro n
  induction n with
  | zero => intro _; rfl
  | succ n ih =>
    intro h
    simp only [dotTo]
    rw [ih (by omega), addTo_at (by omega), Int.mul_add]
    omega
theorem balV_zero {X Y : List (List Int)} {ts : List Int} (h : balV X Y ts = true) : errT X Y ts = 0 ∧ balB X Y ts = true := by
  unfold balV at h
  simp only [Bool.and_eq_true, decide_eq_true_eq] at h
  exact h
theorem tmB_zero {X Y : List (List Int)} {ts : List Int} (h : errT X Y ts = 0) : tmB X Y ts = true := by
  rcases errT_cases X Y ts with ⟨_, k, _⟩ | k
  · exact k
  · rw [h] at k; cases k
theorem sum_bal {X Y : List (List Int)} {ts os : List Int} (h1 : balV X Y ts = true) (h2 : balV X Y os = true)
    (hb : ∀ (j : Nat) (x y : Int), j < ts.length → ts[j]? = some x → os[j]? = some y → -1000000 ≤ x + y ∧ x + y ≤ 1000000) :
    errT X Y (addTo ts os ts.length) = 0 ∧ balV X Y (addTo ts os ts.length) = true := by
  obtain ⟨z1, b1⟩ := balV_zero h1
  obtain ⟨z2, b2⟩ := balV_zero h2
  obtain ⟨t1, l1⟩ := tm_of (tmB_zero z1)
  obtain ⟨t2, l2⟩ := tm_of (tmB_zero z2)
  have hS := errT_zero z1
  have hl : ts.length = X.length + Y.length := by omega
  have hl2 : os.length = X.length + Y.length := by omega
  have htm : tmB X Y (addTo ts os ts.length) = true := by
    unfold tmB
    rw [listB_in]
    · rw [addTo_len]; simp; omega
    · intro j v hj
      have hjl : j < ts.length := by
        rcases Nat.lt_or_ge j ts.length with g | g
        · exact g
        · rw [List.getElem?_eq_none (by rw [addTo_len]; exact g)] at hj; cases hj
      have hv : v = ts.getD j 0 + os.getD j 0 := by
        rw [← addTo_at hjl, List.getD_eq_getElem?_getD, hj]; rfl
      have hx : ts[j]? = some (ts.getD j 0) := by
        rw [List.getD_eq_getElem?_getD, List.getElem?_eq_getElem hjl]; rfl
      have hy : os[j]? = some (os.getD j 0) := by
        rw [List.getD_eq_getElem?_getD, List.getElem?_eq_getElem (by omega)]; rfl
      have := hb j _ _ hjl hx hy
      unfold inB
      rw [hv]
      exact decide_eq_true this
  have he : errT X Y (addTo ts os ts.length) = 0 := errT_ok hS htm
  refine ⟨he, ?_⟩
  rw [balV_ok he]
  unfold balB at b1 b2 ⊢
  rw [List.all_eq_true] at b1 b2 ⊢
  intro e he'
  have g1 := b1 e he'
  have g2 := b2 e he'
  simp only [beq_iff_eq] at g1 g2 ⊢
  rw [dot_add _ _ _ _ _ _ (by omega), g1, g2]
  rfl
end Go.Proofs.Ytfjegdejfccgaaa
