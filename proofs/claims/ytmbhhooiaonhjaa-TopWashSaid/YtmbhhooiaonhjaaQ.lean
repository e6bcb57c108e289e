/- Mass, Below, Mean, Middle: the program's and the document's. -/
import Derived.Test.YtmbhhooiaonhjaaO
namespace Go.Proofs.Ytmbhhooiaonhjaa
open Go.RowKit

def sumM (gs : List (Int × Int)) : Int := (gs.map (·.2)).sum
def sumS (gs : List (Int × Int)) : Int := (gs.map fun g => g.1 * g.2).sum
theorem sumM_snoc (gs : List (Int × Int)) (s m : Int) : sumM (gs ++ [(s, m)]) = sumM gs + m := by simp [sumM]
theorem sumS_snoc (gs : List (Int × Int)) (s m : Int) : sumS (gs ++ [(s, m)]) = sumS gs + s * m := by simp [sumS]
/-- All grains in their ranges. -/
def Fit (gs : List (Int × Int)) : Prop := ∀ g ∈ gs, (1 ≤ g.1 ∧ g.1 ≤ 20) ∧ 1 ≤ g.2 ∧ g.2 ≤ 100
theorem Fit.take {gs : List (Int × Int)} (h : Fit gs) (k : Nat) : Fit (gs.take k) := mem_take h k
theorem fit_of (gs : List (Int × Int)) (h : errV gs = 0) : Fit gs := fun g hg => (errV_zero h).2 g hg
theorem Fit.mass {gs : List (Int × Int)} (h : Fit gs) : ∀ g ∈ gs, 0 ≤ g.2 ∧ g.2 ≤ 100 := fun g hg => by have := h g hg; omega
theorem sumM_bd {gs : List (Int × Int)} (h : Fit gs) : (gs.length : Int) ≤ sumM gs ∧ sumM gs ≤ 100 * gs.length := by
  induction gs with
  | nil => simp [sumM]
  | cons g r ih =>
    have h1 := ih fun x hx => h x (by simp [hx])
    have h2 := h g (by simp)
    have e : sumM (g :: r) = g.2 + sumM r := by simp [sumM]
    rw [e, List.length_cons]
    omega
theorem sumS_bd {gs : List (Int × Int)} (h : Fit gs) : (gs.length : Int) ≤ sumS gs ∧ sumS gs ≤ 2000 * gs.length := by
  induction gs with
  | nil => simp [sumS]
  | cons g r ih =>
    have h1 := ih fun x hx => h x (by simp [hx])
    obtain ⟨⟨a, b⟩, c, d⟩ := h g (by simp)
    have e : sumS (g :: r) = g.1 * g.2 + sumS r := by simp [sumS]
    obtain ⟨p1, p2⟩ := mul_bd (A := 20) (B := 100) (by omega : 0 ≤ g.1) b (by omega : 0 ≤ g.2) d
    have p3 : 1 * 1 ≤ g.1 * g.2 := Int.mul_le_mul a c (by omega) (by omega)
    rw [e, List.length_cons]
    omega
theorem sumB_all {gs : List (Int × Int)} (h : Fit gs) : sumB gs 20 = sumM gs := by
  induction gs with
  | nil => rfl
  | cons g r ih =>
    have h2 := h g (by simp)
    have e : sumB (g :: r) 20 = (if g.1 ≤ 20 then g.2 else 0) + sumB r 20 := by simp [sumB]
    have e' : sumM (g :: r) = g.2 + sumM r := by simp [sumM]
    rw [e, e', ih fun x hx => h x (by simp [hx]), if_pos h2.1.2]
/-- How many of the first grains have at most a size. -/
def upto (gs : List (Int × Int)) (size : Int) : Nat := (gs.takeWhile fun g => decide (g.1 ≤ size)).length
theorem upto_le (gs : List (Int × Int)) (size : Int) : upto gs size ≤ gs.length := (List.takeWhile_sublist _).length_le
theorem upto_take (gs : List (Int × Int)) (size : Int) : gs.take (upto gs size) = gs.takeWhile fun g => decide (g.1 ≤ size) := by
  unfold upto
  induction gs with
  | nil => rfl
  | cons g r ih =>
    by_cases h : g.1 ≤ size
    · simp [h, ih]
    · simp [h]
theorem sumB_gt {last : Int} {gs : List (Int × Int)} {size : Int} (h : scan last gs = true) (hs : size ≤ last) : sumB gs size = 0 := by
  induction gs generalizing last with
  | nil => rfl
  | cons g r ih =>
    simp only [scan, Bool.and_eq_true, decide_eq_true_eq] at h
    have e : sumB (g :: r) size = (if g.1 ≤ size then g.2 else 0) + sumB r size := by simp [sumB]
    rw [e, if_neg (by omega), ih h.2 (by omega)]
    rfl
theorem sumM_upto {last : Int} {gs : List (Int × Int)} (size : Int) (h : scan last gs = true) : sumM (gs.takeWhile fun g => decide (g.1 ≤ size)) = sumB gs size := by
  induction gs generalizing last with
  | nil => rfl
  | cons g r ih =>
    have h0 := h
    simp only [scan, Bool.and_eq_true, decide_eq_true_eq] at h
    have e : sumB (g :: r) size = (if g.1 ≤ size then g.2 else 0) + sumB r size := by simp [sumB]
    by_cases hg : g.1 ≤ size
    · rw [e, if_pos hg, ← ih h.2]
      simp [hg, sumM]
    · rw [sumB_gt h.2 (by omega), if_neg hg] at e
      rw [e]
      simp [hg, sumM]
theorem scan_of {gs : List (Int × Int)} (h : errV gs = 0) : scan 0 gs = true := by
  unfold errV at h
  split at h
  · omega
  · split at h
    · assumption
    · omega

set_option maxHeartbeats 400000 in
theorem massOf_any (A : Option Addr) (n c : Nat) (gs : List (Int × Int)) (w : World) (hR : Prs w A gs) (hn : gs.length = n) (hlen : n ≤ 40) (hm : Fit gs) :
    Calls Try.prog 46 #[.slice A n c] w fun e w' => e = .returned (.int .i64 (sumM gs)) ∧ Bel w w' := by
  have Hn := Lib.hid hn; clear hn
  go_enter Try.func46, Try.ntmps46
  go_wp2
  go_loopw [3, 5, 8] (fun a _ i wr => ∃ k : Nat, k ≤ n ∧ i = .int .i64 k ∧ a = .int .i64 (sumM (gs.take k)) ∧ Bel w wr) (fun _ _ i _ => n - (intOf i).toNat)
  case atStart => exact ⟨0, Nat.zero_le _, rfl, by simp [sumM], Bel.refl _⟩
  case round =>
    obtain ⟨k, hk, rfl, rfl, hb⟩ := hrel
    by_cases hlt : k < n
    · obtain ⟨b, o, s, m, rfl, hbl, hg, hc1, hc2⟩ := (hR.bel hb).at_ (k := k) (by rw [Hn.out]; exact hlt)
      obtain ⟨⟨hm3, hm4⟩, hm1, hm2⟩ := hm (s, m) (List.mem_of_getElem? hg)
      obtain ⟨hs1, hs2⟩ := sumM_bd (hm.take k)
      have hl := List.length_take_le k gs
      have HT := Lib.hid (take_at hg)
      have HS := Lib.hid (sumM_snoc (gs.take k) s m)
      clear hg hm
      simp only at hm1 hm2
      go_wp2
      go_roundw
      case rel => exact ⟨k + 1, by omega, by go_num, by rw [HT.out, HS.out], by (repeat (first | exact Bel.refl _ | assumption | refine Bel.drew ?_ | refine Bel.drewN ?_ _ | refine Bel.alloc ?_ _ | refine Bel.setCell ?_ (by first | omega | (simp; done) | (simp; omega) | (simp at *; omega)) _ | refine Bel.trans ?_ (by assumption)))⟩
      case measure => simp [intOf]; omega
    · obtain rfl : k = n := by omega
      have ht : gs.take k = gs := List.take_of_length_le (by rw [Hn.out]; omega)
      rw [ht]
      clear ht
      go_wp2
      go_ret
      exact ⟨rfl, hb⟩

set_option maxHeartbeats 400000 in
theorem momentOf_any (A : Option Addr) (n c : Nat) (gs : List (Int × Int)) (w : World) (hR : Prs w A gs) (hn : gs.length = n) (hlen : n ≤ 40) (hm : Fit gs) :
    Calls Try.prog 50 #[.slice A n c] w fun e w' => e = .returned (.int .i64 (sumS gs)) ∧ Bel w w' := by
  have Hn := Lib.hid hn; clear hn
  go_enter Try.func50, Try.ntmps50
  go_wp2
  go_loopw [3, 5, 8] (fun a _ i wr => ∃ k : Nat, k ≤ n ∧ i = .int .i64 k ∧ a = .int .i64 (sumS (gs.take k)) ∧ Bel w wr) (fun _ _ i _ => n - (intOf i).toNat)
  case atStart => exact ⟨0, Nat.zero_le _, rfl, by simp [sumS], Bel.refl _⟩
  case round =>
    obtain ⟨k, hk, rfl, rfl, hb⟩ := hrel
    by_cases hlt : k < n
    · obtain ⟨b, o, s, m, rfl, hbl, hg, hc1, hc2⟩ := (hR.bel hb).at_ (k := k) (by rw [Hn.out]; exact hlt)
      obtain ⟨⟨hm3, hm4⟩, hm1, hm2⟩ := hm (s, m) (List.mem_of_getElem? hg)
      obtain ⟨hs1, hs2⟩ := sumS_bd (hm.take k)
      have hl := List.length_take_le k gs
      have HT := Lib.hid (take_at hg)
      have HS := Lib.hid (sumS_snoc (gs.take k) s m)
      clear hg hm
      simp only at hm1 hm2 hm3 hm4
      obtain ⟨p1, p2⟩ := mul_bd (A := 20) (B := 100) (by omega : 0 ≤ s) hm4 (by omega : 0 ≤ m) hm2
      go_wp2
      go_roundw
      case rel => exact ⟨k + 1, by omega, by go_num, by rw [HT.out, HS.out], by (repeat (first | exact Bel.refl _ | assumption | refine Bel.drew ?_ | refine Bel.drewN ?_ _ | refine Bel.alloc ?_ _ | refine Bel.setCell ?_ (by first | omega | (simp; done) | (simp; omega) | (simp at *; omega)) _ | refine Bel.trans ?_ (by assumption)))⟩
      case measure => simp [intOf]; omega
    · obtain rfl : k = n := by omega
      have ht : gs.take k = gs := List.take_of_length_le (by rw [Hn.out]; omega)
      rw [ht]
      clear ht
      go_wp2
      go_ret
      exact ⟨rfl, hb⟩

end Go.Proofs.Ytmbhhooiaonhjaa

