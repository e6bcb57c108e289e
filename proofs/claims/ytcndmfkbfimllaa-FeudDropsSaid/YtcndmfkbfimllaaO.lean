/- feud: the terms (plain facts), and terms walked. -/
import Derived.Test.YtcndmfkbfimllaaN
import Derived.Test.YtcndmfkbfimllaaK
namespace Go.Proofs.Ytcndmfkbfimllaa
open Go.RowKit Go.Maps

/-- How many of some lists use just so many shelves. -/
def cntU (T : List (List Nat)) (j : Nat) : Int := (T.countP fun l => decide (useN l = j) : Nat)
theorem cntU_snoc (T : List (List Nat)) (l : List Nat) (j : Nat) : cntU (T ++ [l]) j = if j = useN l then cntU T (useN l) + 1 else cntU T j := by
  unfold cntU
  rw [List.countP_append]
  by_cases h : j = useN l
  · subst h
    rw [if_pos rfl]
    simp
  · rw [if_neg h]
    have : ¬ useN l = j := fun e => h e.symm
    simp [this]
theorem cntU_bd (T : List (List Nat)) (j : Nat) : 0 ≤ cntU T j ∧ cntU T j ≤ T.length := by
  unfold cntU
  have := List.countP_le_length (p := fun l => decide (useN l = j)) (l := T)
  omega
def waysI (G : List (Nat × Nat)) (p j : Nat) : Int := cntU (shelvL G p) j
theorem ways_bd (G : List (Nat × Nat)) {p : Nat} (hp : p ≤ 7) (j : Nat) : 0 ≤ waysI G p j ∧ waysI G p j ≤ 5040 := by
  have h1 := cntU_bd (shelvL G p) j
  have h2 := shelvL_len G p
  have h3 := fct_mono p hp
  unfold waysI
  omega
/-- The product with (x - n), and the first term more. -/
def tlL (ns : List Int) (n : Int) : List Int := (List.range (ns.length + 1)).map (tl ns n ns.length)
def add0 (l : List Int) (x : Int) : List Int := match l with
  | [] => []
  | a :: r => (a + x) :: r
def termD (G : List (Nat × Nat)) (p : Nat) : Nat → List Int
  | 0 => []
  | j + 1 => add0 (tlL (termD G p j) ((p : Int) - (j : Int))) (waysI G p (p - j))
def termsL (G : List (Nat × Nat)) (p : Nat) : List Int := termD G p (p + 1)
theorem add0_length (l : List Int) (x : Int) : (add0 l x).length = l.length := by cases l <;> rfl
theorem tlL_length (ns : List Int) (n : Int) : (tlL ns n).length = ns.length + 1 := by simp [tlL]
theorem termD_length (G : List (Nat × Nat)) (p j : Nat) : (termD G p j).length = j := by
  induction j with
  | zero => rfl
  | succ j ih => rw [termD, add0_length, tlL_length, ih]
theorem add0_range (m : Nat) (f : Nat → Int) (x y : Int) (hy : y = f 0 + x) : (List.range (m + 1)).map (fun j => if j = 0 then y else f j) = add0 ((List.range (m + 1)).map f) x := by
  rw [List.range_succ_eq_map, List.map_cons, List.map_cons, List.map_map, List.map_map, add0, if_pos rfl, hy]
  congr 1
def bt (j : Nat) : Int := 5040 * 8 ^ j
theorem bt_succ (j : Nat) : bt (j + 1) = 8 * bt j := by unfold bt; rw [Int.pow_succ]; omega
theorem bt_pos (j : Nat) : 5040 ≤ bt j := by
  induction j with
  | zero => decide
  | succ j ih => rw [bt_succ]; omega
theorem bt_big {j : Nat} (h : j ≤ 7) : bt j ≤ big := by
  have : j = 0 ∨ j = 1 ∨ j = 2 ∨ j = 3 ∨ j = 4 ∨ j = 5 ∨ j = 6 ∨ j = 7 := by omega
  rcases this with rfl | rfl | rfl | rfl | rfl | rfl | rfl | rfl <;> decide
theorem getD_bd {ns : List Int} {B : Int} (hB : 0 ≤ B) (h : ∀ t ∈ ns, -B ≤ t ∧ t ≤ B) (i : Nat) : -B ≤ ns.getD i 0 ∧ ns.getD i 0 ≤ B := by
  rw [List.getD_eq_getElem?_getD]
  cases e : ns[i]? with
  | none => simp only [Option.getD_none]; omega
  | some u => exact h u (List.mem_of_getElem? e)
theorem tl_bd {ns : List Int} {n B : Int} (hB : 0 ≤ B) (h : ∀ t ∈ ns, -B ≤ t ∧ t ≤ B) (n0 : 0 ≤ n) (n6 : n ≤ 6) (j : Nat) : -(7 * B) ≤ tl ns n ns.length j ∧ tl ns n ns.length j ≤ 7 * B := by
  have h1 := getD_bd hB h (j - 1)
  have h2 := getD_bd hB h j
  obtain ⟨m1, m2⟩ := mul_abs (A := 6) (B := B) (a := n) (b := ns.getD j 0) (by omega) (by omega) h2.1 h2.2 (by decide) hB
  unfold tl
  generalize n * ns.getD j 0 = R at *
  split <;> split <;> omega
theorem termD_bd (G : List (Nat × Nat)) {p : Nat} (hp : p ≤ 7) (j : Nat) (hj : j ≤ p) : ∀ t ∈ termD G p (j + 1), -bt j ≤ t ∧ t ≤ bt j := by
  induction j with
  | zero =>
    intro t ht
    have hw := ways_bd G hp p
    simp [termD, tlL, add0, tl] at ht
    subst ht
    have : bt 0 = 5040 := by decide
    rw [this]
    omega
  | succ j ih =>
    intro t ht
    have hb := ih (by omega)
    have hp0 := bt_pos j
    rw [termD] at ht
    have hw := ways_bd G hp (p - (j + 1))
    have ht2 := fun i => tl_bd (ns := termD G p (j + 1)) (n := (p : Int) - ((j + 1 : Nat) : Int)) (by omega) hb (by omega) (by omega) i
    rw [bt_succ]
    obtain ⟨a, r, e⟩ : ∃ a r, tlL (termD G p (j + 1)) ((p : Int) - ((j + 1 : Nat) : Int)) = a :: r := by
      cases h : tlL (termD G p (j + 1)) ((p : Int) - ((j + 1 : Nat) : Int)) with
      | nil => have := congrArg List.length h; rw [tlL_length] at this; simp at this
      | cons a r => exact ⟨a, r, rfl⟩
    have hmem : ∀ x ∈ a :: r, -(7 * bt j) ≤ x ∧ x ≤ 7 * bt j := by
      intro x hx
      rw [← e] at hx
      obtain ⟨i, _, rfl⟩ := List.mem_map.1 hx
      exact ht2 i
    rw [e, add0] at ht
    rcases List.mem_cons.1 ht with rfl | ht
    · have := hmem a (by simp); omega
    · have := hmem t (by simp [ht]); omega
theorem termsL_big (G : List (Nat × Nat)) {p : Nat} (hp : p ≤ 7) : ∀ t ∈ termsL G p, -big ≤ t ∧ t ≤ big := by
  intro t ht
  have h1 := termD_bd G hp p (Nat.le_refl _) t ht
  have h2 := bt_big (j := p) hp
  omega
theorem termD_big (G : List (Nat × Nat)) {p j : Nat} (hp : p ≤ 7) (hj : j ≤ p + 1) : ∀ t ∈ termD G p j, -big ≤ t ∧ t ≤ big := by
  cases j with
  | zero => intro t ht; cases ht
  | succ j =>
    intro t ht
    have h1 := termD_bd G hp j (by omega) t ht
    have h2 := bt_big (j := j) (by omega)
    omega
theorem termsL_length (G : List (Nat × Nat)) (p : Nat) : (termsL G p).length = p + 1 := termD_length G p (p + 1)
end Go.Proofs.Ytcndmfkbfimllaa
