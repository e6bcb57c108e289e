/- Moves that grind one lot to a finer one: the finest of one becomes the finest of the other (plain facts). -/
import Derived.Test.YtmbhhooiaonhjaaMF
namespace Go.Proofs.Ytmbhhooiaonhjaa

theorem scan_mono {a b : Int} {l : List (Int × Int)} (h : scan a l = true) (hb : b ≤ a) : scan b l = true := by
  cases l with
  | nil => rfl
  | cons g r =>
    simp only [scan, Bool.and_eq_true, decide_eq_true_eq] at h ⊢
    exact ⟨⟨⟨⟨by omega, h.1.1.1.2⟩, h.1.1.2⟩, h.1.2⟩, h.2⟩
theorem scan_cons {a s m : Int} {r : List (Int × Int)} : scan a ((s, m) :: r) = true ↔ (a < s ∧ s ≤ 20 ∧ 1 ≤ m ∧ m ≤ 100) ∧ scan s r = true := by
  simp [scan, Bool.and_eq_true, decide_eq_true_eq, and_assoc]
theorem massF_cons (s m : Int) (r : List (Int × Int)) (i : Nat) : massF ((s, m) :: r) i = (if s = (i : Int) then m else 0) + massF r i := by simp [massF]
theorem sumB_cons (s m : Int) (r : List (Int × Int)) (z : Int) : sumB ((s, m) :: r) z = (if s ≤ z then m else 0) + sumB r z := by simp [sumB]
theorem sumM_cons (s m : Int) (r : List (Int × Int)) : sumM ((s, m) :: r) = m + sumM r := by simp [sumM]
theorem scan_pos {a : Int} {l : List (Int × Int)} (h : scan a l = true) : (∀ i, 0 ≤ massF l i) ∧ (∀ z, 0 ≤ sumB l z) ∧ 0 ≤ sumM l := by
  induction l generalizing a with
  | nil => exact ⟨fun i => by simp [massF], fun z => by simp [sumB], by simp [sumM]⟩
  | cons g r ih =>
    obtain ⟨s, m⟩ := g
    obtain ⟨h1, h2⟩ := scan_cons.1 h
    obtain ⟨a, b, c⟩ := ih h2
    refine ⟨fun i => ?_, fun z => ?_, ?_⟩
    · have := a i; rw [massF_cons]; split <;> omega
    · have := b z; rw [sumB_cons]; split <;> omega
    · rw [sumM_cons]; omega
/-- Without x of the first grain. -/
def wo (x : Int) : List (Int × Int) → List (Int × Int)
  | [] => []
  | (s, m) :: r => if m - x = 0 then r else (s, m - x) :: r
theorem wo_cons (x s m : Int) (r : List (Int × Int)) : wo x ((s, m) :: r) = if m - x = 0 then r else (s, m - x) :: r := rfl
theorem massF_wo (x s m : Int) (r : List (Int × Int)) (i : Nat) : massF (wo x ((s, m) :: r)) i = massF ((s, m) :: r) i - (if s = (i : Int) then x else 0) := by
  rw [wo_cons, massF_cons]
  by_cases h : m - x = 0
  · rw [if_pos h]; split <;> omega
  · rw [if_neg h, massF_cons]; split <;> omega
theorem sumB_wo (x s m : Int) (r : List (Int × Int)) (z : Int) : sumB (wo x ((s, m) :: r)) z = sumB ((s, m) :: r) z - (if s ≤ z then x else 0) := by
  rw [wo_cons, sumB_cons]
  by_cases h : m - x = 0
  · rw [if_pos h]; split <;> omega
  · rw [if_neg h, sumB_cons]; split <;> omega
theorem sumM_wo (x s m : Int) (r : List (Int × Int)) : sumM (wo x ((s, m) :: r)) = sumM ((s, m) :: r) - x := by
  rw [wo_cons, sumM_cons]
  by_cases h : m - x = 0
  · rw [if_pos h]; omega
  · rw [if_neg h, sumM_cons]; omega
theorem scan_wo {x s m : Int} {r : List (Int × Int)} (h : scan 0 ((s, m) :: r) = true) (h0 : 1 ≤ x) (hx : x ≤ m) : scan 0 (wo x ((s, m) :: r)) = true := by
  obtain ⟨h1, h2⟩ := scan_cons.1 h
  rw [wo_cons]
  by_cases e : m - x = 0
  · rw [if_pos e]; exact scan_mono h2 (by omega)
  · rw [if_neg e]; exact scan_cons.2 ⟨by omega, h2⟩
theorem length_wo (x s m : Int) (r : List (Int × Int)) : (wo x ((s, m) :: r)).length = if m = x then r.length else r.length + 1 := by
  rw [wo_cons]
  by_cases e : m = x
  · rw [if_pos (by omega), if_pos e]
  · rw [if_neg (by omega), if_neg e]; rfl
theorem grindF_snoc {F G : Nat → Int} {P : List (Int × Int × Int)} (h : grindF F P = some G) {f t m : Int} (hs : ¬ G f.toNat < m) : grindF F (P ++ [(f, t, m)]) = some (stepF G f t m) := by
  induction P generalizing F with
  | nil =>
    unfold grindF at h
    injection h with h
    subst h
    rw [List.nil_append]
    unfold grindF
    rw [if_neg hs]
    rfl
  | cons v r ih =>
    obtain ⟨f', t', m'⟩ := v
    unfold grindF at h
    rw [List.cons_append]
    unfold grindF
    split at h
    · cases h
    · rename_i hh
      rw [if_neg hh]
      exact ih h
/-- What holds while the moves are found. -/
structure Inv (gs hs T F : List (Int × Int)) (P : List (Int × Int × Int)) : Prop where
  t : scan 0 T = true
  f : scan 0 F = true
  sum : sumM T = sumM F
  fin : ∀ z, sumB F z ≤ sumB T z
  le : ∀ i, massF T i ≤ massF gs i
  ground : grindF (massF hs) P = some fun i => massF gs i - massF T i + massF F i
  ok : ∀ v ∈ P, moveOk v = true
  len : P.length + T.length + F.length ≤ gs.length + hs.length
theorem Inv.start {gs hs : List (Int × Int)} (h1 : errV gs = 0) (h2 : errV hs = 0) (hm : sumM gs = sumM hs) (hf : finB gs hs = true) : Inv gs hs gs hs [] := by
  refine ⟨scan_of h1, scan_of h2, hm, fun z => ?_, fun i => Int.le_refl _, ?_, (fun v hv => by cases hv), (by simp)⟩
  · by_cases a : z ≤ 0
    · rw [sumB_low (fit_of gs h1) a, sumB_low (fit_of hs h2) a]; exact Int.le_refl _
    · by_cases b : 20 ≤ z
      · rw [sumB_clip (fit_of gs h1) b, sumB_clip (fit_of hs h2) b]
        exact finB_iff.1 hf 20 (by omega)
      · obtain ⟨k, rfl⟩ := Int.eq_ofNat_of_zero_le (by omega : 0 ≤ z)
        exact finB_iff.1 hf k (by omega)
  · unfold grindF
    congr 1
    funext i
    omega
theorem Inv.first {gs hs T F : List (Int × Int)} {P : List (Int × Int × Int)} {s a u b : Int} (h : Inv gs hs ((s, a) :: T) ((u, b) :: F) P) : s ≤ u := by
  obtain ⟨h1, h2⟩ := scan_cons.1 h.t
  obtain ⟨h3, h4⟩ := scan_cons.1 h.f
  refine Int.not_lt.1 fun hlt => ?_
  have c := h.fin u
  have d := (scan_pos h4).2.1 u
  rw [sumB_cons, sumB_cons, if_pos (Int.le_refl _), if_neg (by omega), sumB_gt h2 (by omega)] at c
  omega
theorem Inv.step {gs hs T F : List (Int × Int)} {P : List (Int × Int × Int)} {s a u b x : Int} (h : Inv gs hs ((s, a) :: T) ((u, b) :: F) P) (hx : x = min a b) :
    Inv gs hs (wo x ((s, a) :: T)) (wo x ((u, b) :: F)) (if s < u then P ++ [(u, s, x)] else P) := by
  have hsu := h.first
  obtain ⟨h1, h2⟩ := scan_cons.1 h.t
  obtain ⟨h3, h4⟩ := scan_cons.1 h.f
  have hxa : x ≤ a := by omega
  have hxb : x ≤ b := by omega
  have hx1 : 1 ≤ x := by omega
  have hxx : a = x ∨ b = x := by omega
  refine ⟨scan_wo h.t hx1 hxa, scan_wo h.f hx1 hxb, by rw [sumM_wo, sumM_wo, h.sum], fun z => ?_, fun i => ?_, ?_, ?_, ?_⟩
  · have c := h.fin z
    rw [sumB_wo, sumB_wo]
    by_cases e : u ≤ z
    · rw [if_pos e, if_pos (by omega)]; omega
    · rw [if_neg e]
      by_cases e2 : s ≤ z
      · have d : sumB ((u, b) :: F) z = 0 := by rw [sumB_cons, if_neg e, sumB_gt h4 (by omega)]; rfl
        have q := (scan_pos h2).2.1 z
        rw [d, sumB_cons, if_pos e2, if_pos e2]
        omega
      · rw [if_neg e2]; omega
  · have c := h.le i
    rw [massF_wo]
    split <;> omega
  · by_cases e : s < u
    · rw [if_pos e]
      have hu : ((u.toNat : Nat) : Int) = u := Int.toNat_of_nonneg (by omega)
      rw [grindF_snoc h.ground]
      · congr 1
        funext i
        rw [massF_wo, massF_wo]
        simp only [stepF]
        by_cases p : u = (i : Int)
        · rw [if_pos p, if_pos p]; split <;> omega
        · rw [if_neg p, if_neg p]; split <;> omega
      · have c := h.le u.toNat
        have d := (scan_pos h4).1 u.toNat
        have q : massF ((u, b) :: F) u.toNat = b + massF F u.toNat := by rw [massF_cons, if_pos hu.symm]
        rw [q]
        omega
    · rw [if_neg e, h.ground]
      have hus : u = s := by omega
      subst hus
      congr 1
      funext i
      rw [massF_wo, massF_wo]
      split <;> omega
  · by_cases e : s < u
    · rw [if_pos e]
      intro v hv
      rcases List.mem_append.1 hv with hv | hv
      · exact h.ok v hv
      · rw [List.mem_singleton.1 hv]
        exact moveOk_iff.2 (by omega)
    · rw [if_neg e]; exact h.ok
  · have l := h.len
    rw [length_wo, length_wo]
    simp only [List.length_cons] at l
    have hp : (if s < u then P ++ [(u, s, x)] else P).length ≤ P.length + 1 := by split <;> simp
    have q1 : (if a = x then T.length else T.length + 1) ≤ T.length + 1 := by split <;> omega
    have q2 : (if b = x then F.length else F.length + 1) ≤ F.length + 1 := by split <;> omega
    generalize (if s < u then P ++ [(u, s, x)] else P).length = p at *
    rcases hxx with e | e
    · rw [if_pos e]; omega
    · rw [if_pos e]; omega
theorem Inv.done {gs hs T F : List (Int × Int)} {P : List (Int × Int × Int)} (h : Inv gs hs T F P) (h0 : T = [] ∨ F = []) (he : errF gs hs = 0) : checkE gs hs P = 0 := by
  have empty : ∀ l : List (Int × Int), scan 0 l = true → sumM l = 0 → l = [] := by
    intro l hl hs
    cases l with
    | nil => rfl
    | cons g r =>
      obtain ⟨s, m⟩ := g
      obtain ⟨h1, h2⟩ := scan_cons.1 hl
      have := (scan_pos h2).2.2
      rw [sumM_cons] at hs
      omega
  obtain ⟨rfl, rfl⟩ : T = [] ∧ F = [] := by
    rcases h0 with rfl | rfl
    · exact ⟨rfl, empty F h.f (by rw [← h.sum]; rfl)⟩
    · exact ⟨empty T h.t (by rw [h.sum]; rfl), rfl⟩
  obtain ⟨e1, e2, e3⟩ := errF_zero he
  have l1 := (errV_zero e1).1
  have l2 := (errV_zero e2).1
  have l := h.len
  have hg : grindF (massF hs) P = some (massF gs) := by
    rw [h.ground]
    congr 1
    funext i
    simp [massF]
  have hm : movV P = 0 := by
    unfold movV
    rw [if_neg (by simp only [List.length_nil] at l; omega), if_pos (List.all_eq_true.2 h.ok)]
  have hE : grindE hs P = 0 := by
    unfold grindE
    rw [if_pos e2, if_pos hm, hg]
    simp only
    rw [canon e1, e1]
  unfold checkE
  rw [if_pos he, if_pos hE, hg]
  simp only
  rw [canon e1, if_pos (by simp [same])]
end Go.Proofs.Ytmbhhooiaonhjaa

