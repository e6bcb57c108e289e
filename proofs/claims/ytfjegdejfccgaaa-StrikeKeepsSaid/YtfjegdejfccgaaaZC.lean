/- cleared, exchange, clones of lines. -/
import Derived.Test.YtfjegdejfccgaaaZB
namespace Go.Proofs.Ytfjegdejfccgaaa
open Go.RowKit

def clD (f g : Nat → Int) (c j : Nat) : Int := f j * g c - g j * f c
theorem mulB {x y : Int} (x0 : -1000000000 ≤ x) (x9 : x ≤ 1000000000) (y0 : -1000000000 ≤ y) (y9 : y ≤ 1000000000) : -1000000000000000000 ≤ x * y ∧ x * y ≤ 1000000000000000000 := by
  have key : ∀ x : Int, 0 ≤ x → x ≤ 1000000000 → -1000000000000000000 ≤ x * y ∧ x * y ≤ 1000000000000000000 := by
    intro x h0 h9
    have h1 : x * y ≤ x * 1000000000 := Int.mul_le_mul_of_nonneg_left y9 h0
    have h2 : x * (-1000000000) ≤ x * y := Int.mul_le_mul_of_nonneg_left y0 h0
    omega
  rcases Int.le_total 0 x with h | h
  · exact key x h x9
  · have := key (-x) (by omega) (by omega)
    rw [Int.neg_mul] at this
    omega
/-- Numbers that are not too large. -/
def Fit (f : Nat → Int) : Prop := ∀ i, i < 6 → -1000000000 ≤ f i ∧ f i ≤ 1000000000
set_option maxRecDepth 100000 in
set_option maxHeartbeats 2000000 in
theorem cleared_any (f g : Nat → Int) (c : Nat) (w : World) (hf : Fit f) (hg : Fit g) (hc : c < 6) : Calls Try.prog 124 #[V6 f, V6 g, .int .i64 (c : Int)] w fun e w' => e = .returned (V6 (loF (clD f g c))) ∧ Bel w w' := by
  have HF := Lib.hid hf; have HGf := Lib.hid hg
  have hci : (c : Int) < 6 := by omega
  obtain ⟨w1, hw1⟩ : ∃ w1, w1 = w.alloc (.cells #[.int .i64 (f 0), .int .i64 (f 1), .int .i64 (f 2), .int .i64 (f 3), .int .i64 (f 4), .int .i64 (f 5)] 79) := ⟨_, rfl⟩
  obtain ⟨w2, hw2⟩ : ∃ w2, w2 = w1.alloc (.cells #[.int .i64 (g 0), .int .i64 (g 1), .int .i64 (g 2), .int .i64 (g 3), .int .i64 (g 4), .int .i64 (g 5)] 79) := ⟨_, rfl⟩
  obtain ⟨w3, hw3⟩ : ∃ w3, w3 = w2.alloc (.cells #[.int .i64 0, .int .i64 0, .int .i64 0, .int .i64 0, .int .i64 0, .int .i64 0] 79) := ⟨_, rfl⟩
  obtain ⟨w4, hw4⟩ : ∃ w4, w4 = w3.alloc (.cells #[.int .i64 0, .int .i64 0, .int .i64 0, .int .i64 0, .int .i64 0, .int .i64 0] 79) := ⟨_, rfl⟩
  have s1 : w1.heap.size = w.heap.size + 1 := by rw [hw1]; simp
  have s2 : w2.heap.size = w.heap.size + 1 + 1 := by rw [hw2, World.size_alloc, s1]
  have s3 : w3.heap.size = w.heap.size + 1 + 1 + 1 := by rw [hw3, World.size_alloc, s2]
  have r1 : Row w4 w.heap.size 6 6 f := by
    have := row6 w f 79
    rw [← hw1] at this
    rw [hw4, hw3, hw2]
    exact ((this.alloc _).alloc _).alloc _
  have r2 : Row w4 (w.heap.size + 1) 6 6 g := by
    have := row6 w1 g 79
    rw [← hw2, s1] at this
    rw [hw4, hw3]
    exact (this.alloc _).alloc _
  have r3 : Row w4 (w.heap.size + 1 + 1) 6 6 (fun _ => 0) := by
    have := Row.zero w2 79
    rw [← hw3, s2] at this
    rw [hw4]
    exact this.alloc _
  have r4 : Row w4 (w.heap.size + 1 + 1 + 1) 6 6 (fun _ => 0) := by
    have := Row.zero w3 79
    rw [← hw4, s3] at this
    exact this
  have hb4 : Bel w w4 := by rw [hw4, hw3, hw2, hw1]; (repeat (first | exact Bel.refl _ | assumption | refine Bel.drew ?_ | refine Bel.drewN ?_ _ | refine Bel.alloc ?_ _ | refine Bel.setCell ?_ (by first | omega | (simp; done) | (simp; omega) | (simp at *; omega)) _ | refine Bel.trans ?_ (by assumption)))
  have HW := Lib.hid (show (((w.alloc (.cells #[.int .i64 (f 0), .int .i64 (f 1), .int .i64 (f 2), .int .i64 (f 3), .int .i64 (f 4), .int .i64 (f 5)] 79)).alloc (.cells #[.int .i64 (g 0), .int .i64 (g 1), .int .i64 (g 2), .int .i64 (g 3), .int .i64 (g 4), .int .i64 (g 5)] 79)).alloc (.cells #[.int .i64 0, .int .i64 0, .int .i64 0, .int .i64 0, .int .i64 0, .int .i64 0] 79)).alloc (.cells #[.int .i64 0, .int .i64 0, .int .i64 0, .int .i64 0, .int .i64 0, .int .i64 0] 79) = w4 by rw [hw4, hw3, hw2, hw1])
  have R1 := Lib.hid r1; have R2 := Lib.hid r2; have R3 := Lib.hid r3; have R4 := Lib.hid r4; have HB4 := Lib.hid hb4
  clear hf hg hw1 hw2 hw3 hw4 s1 s2 s3 r1 r2 r3 r4 hb4
  go_enter Try.func124, Try.ntmps124
  go_wp2
  rw [HW.out]
  go_loopw [9] (fun i wr => ∃ k : Nat, k ≤ 6 ∧ i = .int .i64 k ∧ Bel w wr ∧ Row wr w.heap.size 6 6 f ∧ Row wr (w.heap.size + 1) 6 6 g ∧ Row wr (w.heap.size + 1 + 1) 6 6 (fun _ => 0) ∧ Row wr (w.heap.size + 1 + 1 + 1) 6 6 (fun j => if j < k then clD f g c j else 0)) (fun i _ => 6 - (intOf i).toNat)
  case atStart => exact ⟨0, by omega, rfl, HB4.out, R1.out, R2.out, R3.out, R4.out.congr (fun i _ => by rw [if_neg (by omega)])⟩
  case round =>
    clear R1 R2 R3 R4 HB4 HW
    obtain ⟨k, hk, rfl, hb, h1, h2, h3, h4⟩ := hrel
    by_cases hlt : k < 6
    · have hki : (k : Int) < 6 := by omega
      obtain ⟨f0, f9⟩ := HF.out k hlt
      obtain ⟨g0, g9⟩ := HGf.out k hlt
      obtain ⟨fc0, fc9⟩ := HF.out c hc
      obtain ⟨gc0, gc9⟩ := HGf.out c hc
      have m1 := mulB f0 f9 gc0 gc9
      have m2 := mulB g0 g9 fc0 fc9
      have q1 := h1.cells k hlt
      have q2 := h1.cells c hc
      have q3 := h2.cells k hlt
      have q4 := h2.cells c hc
      obtain ⟨v, hv⟩ := h4.all k hlt
      have hfz := h4.fz k
      have hl1 := h1.lt; have hl2 := h2.lt; have hl4 := h4.lt
      obtain ⟨P1, hP1⟩ : ∃ P1, P1 = f k * g c := ⟨_, rfl⟩
      obtain ⟨P2, hP2⟩ : ∃ P2, P2 = g k * f c := ⟨_, rfl⟩
      rw [← hP1] at m1
      rw [← hP2] at m2
      have k1 : IntKind.i64.wrap (f k * g c) = P1 := by rw [← hP1]; exact IntWalk.i64_in _ (by omega)
      have k2 : IntKind.i64.wrap (g k * f c) = P2 := by rw [← hP2]; exact IntWalk.i64_in _ (by omega)
      have k3 : IntKind.i64.wrap (P1 - P2) = P1 - P2 := IntWalk.i64_in _ (by omega)
      have HD := Lib.hid (show clD f g c k = P1 - P2 by unfold clD; rw [hP1, hP2])
      have HR4 := Lib.hid ((h4.put hlt (P1 - P2)).congr (f' := fun j => if j < k + 1 then clD f g c j else 0) (fun j _ => by
        by_cases e : j = k
        · subst e; rw [if_pos (by omega), if_pos rfl, HD.out]
        · rw [if_neg e]
          by_cases e2 : j < k
          · rw [if_pos (by omega), if_pos e2]
          · rw [if_neg (by omega), if_neg e2]))
      have HR1 := Lib.hid (h1.far (p := ⟨w.heap.size + 1 + 1 + 1, k, none⟩) (by simp <;> omega) (.int .i64 (P1 - P2)))
      have HR2 := Lib.hid (h2.far (p := ⟨w.heap.size + 1 + 1 + 1, k, none⟩) (by simp <;> omega) (.int .i64 (P1 - P2)))
      have HR3 := Lib.hid (h3.far (p := ⟨w.heap.size + 1 + 1 + 1, k, none⟩) (by simp) (.int .i64 (P1 - P2)))
      have hb2 := Lib.hid (show Bel w (wr.setCell ⟨w.heap.size + 1 + 1 + 1, k, none⟩ (.int .i64 (P1 - P2))).drew by (repeat (first | exact Bel.refl _ | assumption | refine Bel.drew ?_ | refine Bel.drewN ?_ _ | refine Bel.alloc ?_ _ | refine Bel.setCell ?_ (by first | omega | (simp; done) | (simp; omega) | (simp at *; omega)) _ | refine Bel.trans ?_ (by assumption))))
      clear h1 h2 h3 h4 hP1 hP2
      go_wp2
      go_region
      clear k1 k2 k3
      go_wp2
      go_roundw
      case rel => exact ⟨k + 1, by omega, by go_num, hb2.out, HR1.out.drew, HR2.out.drew, HR3.out.drew, HR4.out.drew⟩
      case measure => simp [intOf]; omega
    · obtain rfl : k = 6 := by omega
      have h4' : Row wr (w.heap.size + 1 + 1 + 1) 6 6 (clD f g c) := h4.congr (fun j hj => by rw [if_pos hj])
      obtain ⟨c0, c1, c2, c3, c4, c5⟩ := h4'.six
      have hbd : Hid (∀ i, i < 6 → -4000000000000000000 ≤ clD f g c i ∧ clD f g c i ≤ 4000000000000000000) := fun i hi => by
        have a := HF.out i hi; have b := HGf.out i hi; have a' := HF.out c hc; have b' := HGf.out c hc
        have m1 := mulB a.1 a.2 b'.1 b'.2
        have m2 := mulB b.1 b.2 a'.1 a'.2
        unfold clD
        omega
      have HL := Lib.hid h3.lt
      have H3 := Lib.hid h3
      clear h1 h2 h3 h4 h4'
      go_wp2_with fail
      refine (lowest_any (clD f g c) _ hbd.out).mono ?_
      rintro e w5 ⟨rfl, hb5⟩
      have h3 := H3.out.bel hb5
      obtain ⟨d0, d1, d2, d3, d4, d5⟩ := h3.six
      have hz0 := h3.fz 0; have hz1 := h3.fz 1; have hz2 := h3.fz 2; have hz3 := h3.fz 3; have hz4 := h3.fz 4; have hz5 := h3.fz 5
      have hl2 := h3.lt
      have HQ := Lib.hid (fill6 (loF (clD f g c)) h3)
      have HB := Lib.hid (bel6 (loF (clD f g c)) (hb.trans hb5) (g := w.heap.size + 1 + 1) (by omega))
      clear h3 c0 c1 c2 c3 c4 c5
      obtain ⟨F, hF⟩ : ∃ F, F = loF (clD f g c) := ⟨_, rfl⟩
      rw [← hF] at HQ HB ⊢
      have HFF := Lib.hid hF
      clear hF
      go_wp2
      obtain ⟨e0, e1, e2, e3, e4, e5⟩ := HQ.out.six
      exact bodyPost_ret (v := V6 F) (by simp [results, Try.results124, go_sem, e0, e1, e2, e3, e4, e5]) rfl ⟨by rw [HFF.out], HB.out⟩
end Go.Proofs.Ytfjegdejfccgaaa
