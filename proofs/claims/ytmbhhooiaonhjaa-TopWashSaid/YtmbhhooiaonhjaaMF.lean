/- Work. -/
import Derived.Test.YtmbhhooiaonhjaaMD
import Derived.Test.YtmbhhooiaonhjaaME
namespace Go.Proofs.Ytmbhhooiaonhjaa
open Go.RowKit

def wF (F : Nat → Int) (k : Nat) : Int := sumTo (fun i => (i : Int) * F i) k
def workM (ms : List (Int × Int × Int)) : Int := (ms.map fun v : Int × Int × Int => v.2.2 * (v.1 - v.2.1)).sum
theorem workM_snoc (ms : List (Int × Int × Int)) (f t m : Int) : workM (ms ++ [(f, t, m)]) = workM ms + m * (f - t) := by simp [workM]
theorem workM_cons (v : Int × Int × Int) (ms : List (Int × Int × Int)) : workM (v :: ms) = v.2.2 * (v.1 - v.2.1) + workM ms := by simp [workM]
theorem move_bd {f t m : Int} (hv : moveOk (f, t, m) = true) : 0 ≤ m * (f - t) ∧ m * (f - t) ≤ 2000 := by
  obtain ⟨h1, h2, h3, h4, h5⟩ := moveOk_iff.1 hv
  have := mul_bd (A := 100) (B := 20) (by omega : 0 ≤ m) h5 (by omega : 0 ≤ f - t) (by omega)
  omega
theorem workM_bd {ms : List (Int × Int × Int)} (hv : ∀ v ∈ ms, moveOk v = true) : 0 ≤ workM ms ∧ workM ms ≤ 2000 * ms.length := by
  induction ms with
  | nil => simp [workM]
  | cons v r ih =>
    have a := ih fun x hx => hv x (by simp [hx])
    have b := move_bd (hv (v.1, v.2.1, v.2.2) (by simp))
    rw [workM_cons, List.length_cons]
    omega
theorem stepF_w {F : Nat → Int} {f t m : Int} (hv : moveOk (f, t, m) = true) (k : Nat) : wF (stepF F f t m) k = wF F k - (if f < (k : Int) then f * m else 0) + (if t < (k : Int) then t * m else 0) := by
  obtain ⟨h1, h2, h3, h4, h5⟩ := moveOk_iff.1 hv
  unfold wF
  induction k with
  | zero => rw [if_neg (by omega), if_neg (by omega)]; simp [sumTo]
  | succ k ih =>
    simp only [sumTo, ih]
    unfold stepF
    have e : ((k + 1 : Nat) : Int) = (k : Int) + 1 := by omega
    rw [e]
    by_cases a : f = (k : Int)
    · rw [if_neg (show ¬ f < (k : Int) by omega), if_pos a, if_pos (show f < (k : Int) + 1 by omega), if_pos (show t < (k : Int) by omega), if_neg (show ¬ t = (k : Int) by omega), if_pos (show t < (k : Int) + 1 by omega), Int.add_zero, Int.mul_sub, a]
      omega
    · rw [if_neg a]
      by_cases b : t = (k : Int)
      · rw [if_pos b, if_neg (show ¬ t < (k : Int) by omega), if_pos (show t < (k : Int) + 1 by omega), if_neg (show ¬ f < (k : Int) by omega), if_neg (show ¬ f < (k : Int) + 1 by omega), Int.mul_add, b]
        omega
      · rw [if_neg b, Int.add_zero]
        by_cases c : f < (k : Int)
        · rw [if_pos c, if_pos (show f < (k : Int) + 1 by omega), if_pos (show t < (k : Int) by omega), if_pos (show t < (k : Int) + 1 by omega)]
          omega
        · rw [if_neg c, if_neg (show ¬ f < (k : Int) + 1 by omega)]
          by_cases d : t < (k : Int)
          · rw [if_pos d, if_pos (show t < (k : Int) + 1 by omega)]
            omega
          · rw [if_neg d, if_neg (show ¬ t < (k : Int) + 1 by omega)]
            omega
theorem grindF_w {F G : Nat → Int} {ms : List (Int × Int × Int)} (h : grindF F ms = some G) (hv : ∀ v ∈ ms, moveOk v = true) : wF F 21 - wF G 21 = workM ms := by
  induction ms generalizing F with
  | nil =>
    unfold grindF at h
    injection h with h
    subst h
    simp [workM]
  | cons v r ih =>
    obtain ⟨f, t, m⟩ := v
    unfold grindF at h
    split at h
    · cases h
    · have a := ih h fun x hx => hv x (by simp [hx])
      have b := stepF_w (F := F) (hv (f, t, m) (by simp)) 21
      obtain ⟨h1, h2, h3, h4, h5⟩ := moveOk_iff.1 (hv (f, t, m) (by simp))
      rw [if_pos (by omega), if_pos (by omega)] at b
      rw [workM_cons]
      have e : m * (f - t) = f * m - t * m := by rw [Int.mul_sub, Int.mul_comm m f, Int.mul_comm m t]
      simp only
      omega
theorem wF_one {s m : Int} (h0 : 0 ≤ s) (k : Nat) : wF (fun i => if s = (i : Int) then m else 0) k = if s < (k : Int) then s * m else 0 := by
  unfold wF
  induction k with
  | zero => rw [if_neg (by omega)]; rfl
  | succ k ih =>
    simp only [sumTo, ih]
    have e : ((k + 1 : Nat) : Int) = (k : Int) + 1 := by omega
    rw [e]
    by_cases a : s = (k : Int)
    · rw [if_neg (by omega), if_pos a, if_pos (by omega), a]; omega
    · rw [if_neg a, Int.mul_zero]
      by_cases b : s < (k : Int)
      · rw [if_pos b, if_pos (by omega)]; omega
      · rw [if_neg b, if_neg (by omega)]; rfl
theorem sumS_w {gs : List (Int × Int)} (h : Fit gs) : sumS gs = wF (massF gs) 21 := by
  induction gs with
  | nil => simp [sumS, wF, massF, sumTo]
  | cons g r ih =>
    have h2 := h g (by simp)
    have e1 : sumS (g :: r) = g.1 * g.2 + sumS r := by simp [sumS]
    have e2 : massF (g :: r) = fun (i : Nat) => (if g.1 = (i : Int) then g.2 else 0) + massF r i := by funext i; simp [massF]
    have e3 : wF (massF (g :: r)) 21 = wF (fun (i : Nat) => if g.1 = (i : Int) then g.2 else 0) 21 + wF (massF r) 21 := by
      rw [e2]
      unfold wF
      rw [← sumTo_add]
      congr 1
      funext i
      rw [Int.mul_add]
    rw [e1, e3, wF_one (by omega), if_pos (by omega), ih fun x hx => h x (by simp [hx])]
theorem wF_congr {F G : Nat → Int} (k : Nat) (h : ∀ i, i < k → F i = G i) : wF F k = wF G k := by
  unfold wF
  induction k with
  | zero => rfl
  | succ k ih => simp only [sumTo]; rw [ih fun i hi => h i (by omega), h k (by omega)]
/-- Moves that are accepted have the least work. -/
theorem work_all {gs hs : List (Int × Int)} {G : Nat → Int} {ms : List (Int × Int × Int)} (h1 : errV gs = 0) (h2 : errV hs = 0) (h : grindF (massF hs) ms = some G) (hv : ∀ v ∈ ms, moveOk v = true) (he : lotF G = gs) : workM ms = sumS hs - sumS gs := by
  have a := grindF_w h hv
  have b := sumS_w (fit_of hs h2)
  have c := sumS_w (fit_of gs h1)
  have d : wF (massF gs) 21 = wF G 21 := wF_congr 21 fun i hi => by rw [← he, massF_lotF G hi]
  omega
/-- The document's sum is the moments' difference. -/
theorem work_ref {gs hs : List (Int × Int)} (h1 : Fit gs) (h2 : Fit hs) (hm : sumM gs = sumM hs) : sumTo (fun i => sumB gs i - sumB hs i) 21 = sumS hs - sumS gs := by
  have e : sumTo (fun i => sumM hs - sumB hs i) 21 = sumTo (fun i => (sumM gs - sumB gs i) + (sumB gs i - sumB hs i)) 21 := by
    congr 1
    funext i
    omega
  rw [sumS_eq h1, sumS_eq h2, e, sumTo_add]
  omega
/-- Grind's error. -/
def grindE (gs : List (Int × Int)) (ms : List (Int × Int × Int)) : Int :=
  if errV gs = 0 then if movV ms = 0 then match grindF (massF gs) ms with | none => 9 | some G => errV (lotF G) else movV ms else errV gs
theorem grindE_zero {gs : List (Int × Int)} {ms : List (Int × Int × Int)} (h : grindE gs ms = 0) : errV gs = 0 ∧ movV ms = 0 ∧ ∃ G, grindF (massF gs) ms = some G ∧ errV (lotF G) = 0 := by
  unfold grindE at h
  split at h
  · rename_i a
    split at h
    · rename_i b
      cases c : grindF (massF gs) ms with
      | none => rw [c] at h; exact absurd h (by decide)
      | some G => rw [c] at h; exact ⟨a, b, G, rfl, h⟩
    · exact absurd h (by assumption)
  · exact absurd h (by assumption)
theorem GrindAns.err {w w' : World} {gs : List (Int × Int)} {ms : List (Int × Int × Int)} {e : Ending} (h : GrindAns w gs ms e w') (hx : grindE gs ms ≠ 0) : e = .returned (.tuple #[.slice none 0 0, .int .i64 (grindE gs ms)]) ∧ Bel w w' := by
  rcases h with ⟨a, b, c⟩ | ⟨a, b, c, d⟩ | ⟨a, b, c, d, f⟩ | ⟨a, b, G, c, h | h⟩
  · have e1 : grindE gs ms = errV gs := by unfold grindE; rw [if_neg a]
    rw [e1]; exact ⟨b, c⟩
  · have e1 : grindE gs ms = movV ms := by unfold grindE; rw [if_pos a, if_neg b]
    rw [e1]; exact ⟨c, d⟩
  · have e1 : grindE gs ms = 9 := by unfold grindE; rw [if_pos a, if_pos b, c]
    rw [e1]; exact ⟨d, f⟩
  · have e1 : grindE gs ms = errV (lotF G) := by unfold grindE; rw [if_pos a, if_pos b, c]
    exact absurd (e1.trans h.1) hx
  · have e1 : grindE gs ms = errV (lotF G) := by unfold grindE; rw [if_pos a, if_pos b, c]
    rw [e1]; exact h.2
theorem GrindAns.ok {w w' : World} {gs : List (Int × Int)} {ms : List (Int × Int × Int)} {e : Ending} (h : GrindAns w gs ms e w') {G : Nat → Int} (h1 : errV gs = 0) (h2 : movV ms = 0) (hG : grindF (massF gs) ms = some G) (h3 : errV (lotF G) = 0) : OneLot w (lotF G) e w' := by
  rcases h with ⟨a, b, c⟩ | ⟨a, b, c, d⟩ | ⟨a, b, c, d, f⟩ | ⟨a, b, G', c, h | h⟩
  · exact absurd h1 a
  · exact absurd h2 b
  · rw [hG] at c; cases c
  · rw [hG] at c; injection c with c; subst c; exact h.2
  · rw [hG] at c; injection c with c; subst c; exact absurd h3 h.1

/-- CheckFiner's answer. -/
def checkE (gs hs : List (Int × Int)) (ms : List (Int × Int × Int)) : Int :=
  if errF gs hs = 0 then if grindE hs ms = 0 then match grindF (massF hs) ms with | none => 7 | some G => if same (lotF G) gs = true then 0 else 7 else grindE hs ms else errF gs hs
theorem checkE_zero {gs hs : List (Int × Int)} {ms : List (Int × Int × Int)} (h : checkE gs hs ms = 0) : errF gs hs = 0 ∧ grindE hs ms = 0 ∧ ∃ G, grindF (massF hs) ms = some G ∧ lotF G = gs := by
  unfold checkE at h
  split at h
  · rename_i a
    split at h
    · rename_i b
      cases c : grindF (massF hs) ms with
      | none => rw [c] at h; simp at h
      | some G =>
        rw [c] at h
        simp only at h
        split at h
        · rename_i d
          exact ⟨a, b, G, rfl, by simpa [same] using d⟩
        · exact absurd h (by decide)
    · exact absurd h (by assumption)
  · exact absurd h (by assumption)
end Go.Proofs.Ytmbhhooiaonhjaa

