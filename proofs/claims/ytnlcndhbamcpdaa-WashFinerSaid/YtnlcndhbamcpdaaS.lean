/- Mean and Middle. -/
import Derived.Test.YtnlcndhbamcpdaaR
namespace Go.Proofs.Ytnlcndhbamcpdaa
open Go.RowKit

/-- Mean's answer: a fraction and the error. -/
def meanV (gs : List (Int × Int)) : Int × Int × Int :=
  if errV gs = 0 then if gs.length = 0 then (0, 0, 4) else (num (sumS gs) (sumM gs), den (sumS gs) (sumM gs), 0) else (0, 0, errV gs)
def ratE (x : Int × Int × Int) : Value := .tuple #[.agg #[.int .i64 x.1, .int .i64 x.2.1], .int .i64 x.2.2]
theorem ratE_mk {a b c : Int} {x : Int × Int × Int} (h : x = (a, b, c)) : Ending.returned (.tuple #[.agg #[.int .i64 a, .int .i64 b], .int .i64 c]) = .returned (ratE x) := by rw [h]; rfl

set_option maxHeartbeats 400000 in
theorem wMean_any (A : Option Addr) (n c : Nat) (gs : List (Int × Int)) (w : World) (hR : Prs w A gs) (hn : gs.length = n) (hlen : n ≤ 40) :
    Calls Try.prog 74 #[.slice A n c] w fun e w' => e = .returned (ratE (meanV gs)) ∧ Bel w w' := by
  by_cases he : errV gs = 0
  · have hm := fit_of gs he
    rcases Nat.eq_zero_or_pos n with h0 | h0
    · have hv : meanV gs = (0, 0, 4) := by unfold meanV; rw [if_pos he, if_pos (by omega)]
      have HV := Lib.hid hv; clear hv
      have HE := Lib.hid he; clear he
      subst h0
      go_enter Try.func74, Try.ntmps74
      go_wp2_with fail
      refine (validate_any A 0 c gs _ (hR.bel ((Bel.refl w).alloc _)) hn (by unfold maxLen; omega)).mono ?_
      rintro e w1 ⟨rfl, hb1⟩
      rw [HE.out]
      have t3 : w1.cell? ⟨w.heap.size, 0, none⟩ = some (.int .i64 0) := by rw [hb1.use.1 _ _ (by simp)]; go_simp
      have t4 : w1.cell? ⟨w.heap.size, 1, none⟩ = some (.int .i64 0) := by rw [hb1.use.1 _ _ (by simp)]; go_simp
      have t5 : ∀ i, w1.frozen? ⟨w.heap.size, i, none⟩ = false := fun i => by rw [hb1.use.2.1 _ _ (by simp)]; go_simp
      go_wp2
      exact bodyPost_ret (v := .tuple #[.agg #[.int .i64 0, .int .i64 0], .int .i64 4]) (by simp [results, Try.results74, go_sem, t3, t4]) rfl ⟨ratE_mk HV.out, by (repeat (first | exact Bel.refl _ | assumption | refine Bel.drew ?_ | refine Bel.drewN ?_ _ | refine Bel.alloc ?_ _ | refine Bel.setCell ?_ (by first | omega | (simp; done) | (simp; omega) | (simp at *; omega)) _ | refine Bel.trans ?_ (by assumption)))⟩
    · have hv : meanV gs = (num (sumS gs) (sumM gs), den (sumS gs) (sumM gs), 0) := by unfold meanV; rw [if_pos he, if_neg (by omega)]
      have HV := Lib.hid hv; clear hv
      obtain ⟨b1, b2⟩ := sumS_bd hm
      obtain ⟨b3, b4⟩ := sumM_bd hm
      have h6 := (errV_zero he).1
      have h1 : ((n : Int) == 0) = false := by simp; omega
      have HE := Lib.hid he; clear he
      have b5 : 0 ≤ sumS gs ∧ sumS gs ≤ 1000000 ∧ 0 < sumM gs ∧ sumM gs ≤ 1000000 := by omega
      clear b1 b2 b3 b4
      go_enter Try.func74, Try.ntmps74
      go_wp2_with fail
      refine (validate_any A n c gs _ (hR.bel ((Bel.refl w).alloc _)) hn (by unfold maxLen; omega)).mono ?_
      rintro e w1 ⟨rfl, hb1⟩
      rw [HE.out]
      go_wp2_with fail
      refine (momentOf_any A n c gs _ (hR.bel (by (repeat (first | exact Bel.refl _ | assumption | refine Bel.drew ?_ | refine Bel.drewN ?_ _ | refine Bel.alloc ?_ _ | refine Bel.setCell ?_ (by first | omega | (simp; done) | (simp; omega) | (simp at *; omega)) _ | refine Bel.trans ?_ (by assumption))))) hn (by omega) hm).mono ?_
      rintro e w2 ⟨rfl, hb2⟩
      go_wp2_with fail
      refine (massOf_any A n c gs _ (hR.bel (by (repeat (first | exact Bel.refl _ | assumption | refine Bel.drew ?_ | refine Bel.drewN ?_ _ | refine Bel.alloc ?_ _ | refine Bel.setCell ?_ (by first | omega | (simp; done) | (simp; omega) | (simp at *; omega)) _ | refine Bel.trans ?_ (by assumption))))) hn (by omega) hm).mono ?_
      rintro e w3 ⟨rfl, hb3⟩
      go_wp2_with fail
      refine (lowest_any _ _ _ b5.1 b5.2.2.1 (by omega) (by omega)).mono ?_
      rintro e w4 ⟨rfl, hb4⟩
      have hb : Bel (w.alloc (.cells #[.int .i64 0, .int .i64 0] 29)) w4 := by (repeat (first | exact Bel.refl _ | assumption | refine Bel.drew ?_ | refine Bel.drewN ?_ _ | refine Bel.alloc ?_ _ | refine Bel.setCell ?_ (by first | omega | (simp; done) | (simp; omega) | (simp at *; omega)) _ | refine Bel.trans ?_ (by assumption)))
      have t3 : w4.cell? ⟨w.heap.size, 0, none⟩ = some (.int .i64 0) := by rw [hb.use.1 _ _ (by simp)]; go_simp
      have t4 : w4.cell? ⟨w.heap.size, 1, none⟩ = some (.int .i64 0) := by rw [hb.use.1 _ _ (by simp)]; go_simp
      have t5 : ∀ i, w4.frozen? ⟨w.heap.size, i, none⟩ = false := fun i => by rw [hb.use.2.1 _ _ (by simp)]; go_simp
      go_wp2
      exact bodyPost_ret (v := .tuple #[.agg #[.int .i64 (num (sumS gs) (sumM gs)), .int .i64 (den (sumS gs) (sumM gs))], .int .i64 0]) (by simp [results, Try.results74, go_sem, t3, t4]) rfl ⟨ratE_mk HV.out, by (repeat (first | exact Bel.refl _ | assumption | refine Bel.drew ?_ | refine Bel.drewN ?_ _ | refine Bel.alloc ?_ _ | refine Bel.setCell ?_ (by first | omega | (simp; done) | (simp; omega) | (simp at *; omega)) _ | refine Bel.trans ?_ (by assumption)))⟩
  · have hv : meanV gs = (0, 0, errV gs) := by unfold meanV; rw [if_neg he]
    have HV := Lib.hid hv; clear hv
    have hne : (errV gs != 0) = true := by simpa using he
    go_enter Try.func74, Try.ntmps74
    go_wp2_with fail
    refine (validate_any A n c gs _ (hR.bel ((Bel.refl w).alloc _)) hn (by unfold maxLen; omega)).mono ?_
    rintro e w1 ⟨rfl, hb1⟩
    have t3 : w1.cell? ⟨w.heap.size, 0, none⟩ = some (.int .i64 0) := by rw [hb1.use.1 _ _ (by simp)]; go_simp
    have t4 : w1.cell? ⟨w.heap.size, 1, none⟩ = some (.int .i64 0) := by rw [hb1.use.1 _ _ (by simp)]; go_simp
    have t5 : ∀ i, w1.frozen? ⟨w.heap.size, i, none⟩ = false := fun i => by rw [hb1.use.2.1 _ _ (by simp)]; go_simp
    go_wp2
    exact bodyPost_ret (v := .tuple #[.agg #[.int .i64 0, .int .i64 0], .int .i64 (errV gs)]) (by simp [results, Try.results74, go_sem, t3, t4]) rfl ⟨ratE_mk HV.out, by (repeat (first | exact Bel.refl _ | assumption | refine Bel.drew ?_ | refine Bel.drewN ?_ _ | refine Bel.alloc ?_ _ | refine Bel.setCell ?_ (by first | omega | (simp; done) | (simp; omega) | (simp at *; omega)) _ | refine Bel.trans ?_ (by assumption)))⟩
end Go.Proofs.Ytnlcndhbamcpdaa
