/- Records: plain facts for asking until one grade is left. -/
import Derived.Test.YtjcompmmjcefhaaKW
import Derived.Test.YtjcompmmjcefhaaKY
namespace Go.Proofs.Ytjcompmmjcefhaa

theorem nIn_nil (L : List An) (v : Int) (k : Nat) : nIn L [] v k = 0 := by
  induction k with
  | zero => rfl
  | succ k ih => rw [nIn_succ, ih]; simp [hasB]
theorem pk_ne {L : List An} {g x y : Nat} (hg : g ≤ 16) (hx : x ≤ zA L g) (hy : y ≤ zB L g - zA L g) (h1 : 1 ≤ nd (zA L g) (zB L g - zA L g)) (hG : good (nd (zA L g) (zB L g - zA L g) - 1) (zA L g) (zB L g - zA L g) x y = true) :
    (pk (cntI L) x y g).2.2 ≠ [] := by
  intro h
  have hn := next_less hg hx hy h1 hG false
  rw [h] at hn
  obtain ⟨m1, m2⟩ := more_state L [] false g
  simp only [nIn_nil, Bool.false_eq_true, if_false, Nat.sub_zero, Nat.add_zero] at m1 m2
  rw [m2, m1] at hn
  omega
theorem zB_left (L : List An) (g : Nat) : zB L g = (leftL L g 1).length := rfl
theorem in_left1 {L : List An} {g r : Nat} (hr : r < g) (hc : cntI L r ≤ 1) : (r : Int) ∈ leftL L g 1 := by
  have := hasB_left L g 1 r
  rw [decide_eq_true ⟨hr, hc⟩] at this
  exact hasB_iff.1 this
theorem left_one {L : List An} {g r : Nat} (hr : r < g) (hc : cntI L r ≤ 1) (hz : zB L g ≤ 1) : leftL L g 1 = [(r : Int)] := by
  have hm := in_left1 hr hc
  rw [zB_left] at hz
  match h : leftL L g 1 with
  | [] => rw [h] at hm; cases hm
  | [x] => rw [h] at hm; rw [List.mem_singleton.1 hm]
  | x :: y :: t => rw [h] at hz; simp at hz
/-- Has the false answer been given? -/
def lied (lie : Int) (k : Nat) : Int := if 0 ≤ lie ∧ lie < (k : Int) then 1 else 0
theorem lied_bd (lie : Int) (k : Nat) : 0 ≤ lied lie k ∧ lied lie k ≤ 1 := by unfold lied; split <;> omega
theorem cnt_more {L : List An} {r : Nat} {lie : Int} (h : cntI L r = lied lie L.length) {S : List Int} {y : Bool} (hy : y = (hasB S (r : Int) != decide (lie = (L.length : Int)))) : cntI (L ++ [(S, y)]) r = lied lie (L.length + 1) := by
  rw [cntI_snoc, h, hy]
  have e : ag (S, hasB S (r : Int) != decide (lie = (L.length : Int))) (r : Int) = decide (lie = (L.length : Int)) := by
    unfold ag
    cases hasB S (r : Int) <;> cases decide (lie = (L.length : Int)) <;> rfl
  rw [e]
  unfold lied
  by_cases hl : lie = (L.length : Int)
  · rw [decide_eq_true hl, if_pos rfl, if_neg (by omega), if_pos (by omega)]; rfl
  · rw [decide_eq_false hl]
    simp only [Bool.false_eq_true, if_false]
    split <;> split <;> omega
theorem cntI_nil (r : Nat) : cntI [] r = 0 := rfl
theorem z_nil (g : Nat) : zA [] g = g ∧ zB [] g = g := by
  induction g with
  | zero => exact ⟨rfl, rfl⟩
  | succ k ih => rw [zA_snoc, zB_snoc, ih.1, ih.2, cntI_nil]; exact ⟨rfl, rfl⟩
/-- While it is asked: what is known of the record. -/
structure Asked (g r most : Nat) (lie : Int) (L : List An) : Prop where
  err : errA (g : Int) L = 0
  need : nd (zA L g) (zB L g - zA L g) + L.length ≤ most
  cnt : cntI L r = lied lie L.length
theorem Asked.more {g r most : Nat} {lie : Int} {L : List An} {x y : Nat} {yes : Bool} (h : Asked g r most lie L) (hm : most ≤ 8) (hg : g ≤ 16) (hx : x ≤ zA L g) (hy : y ≤ zB L g - zA L g) (h1 : 1 ≤ nd (zA L g) (zB L g - zA L g)) (hG : good (nd (zA L g) (zB L g - zA L g) - 1) (zA L g) (zB L g - zA L g) x y = true)
    (hyes : yes = (hasB (pk (cntI L) x y g).2.2 (r : Int) != decide (lie = (L.length : Int)))) : Asked g r most lie (L ++ [((pk (cntI L) x y g).2.2, yes)]) := by
  have hn := next_less hg hx hy h1 hG yes
  have := h.need
  refine ⟨longer_err h.err (by omega) (pk_set _ _ _ _ _ (Int.le_refl _)), by rw [List.length_append]; simp only [List.length_cons, List.length_nil]; omega, ?_⟩
  rw [List.length_append]
  exact cnt_more h.cnt hyes
end Go.Proofs.Ytjcompmmjcefhaa
