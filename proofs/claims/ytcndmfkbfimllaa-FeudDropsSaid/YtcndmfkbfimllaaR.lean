/- feud: Orders; the known answers. -/
import Derived.Test.YtcndmfkbfimllaaQ
namespace Go.Proofs.Ytcndmfkbfimllaa
open Go.RowKit Go.Maps

theorem valP_bd {k : Int} (k0 : -1 ≤ k) (k9 : k ≤ 9) : ∀ (ts : List Int) (i : Nat) (p : Int), i + ts.length ≤ 8 → (∀ t ∈ ts, -big ≤ t ∧ t ≤ big) → -pw9 i ≤ p → p ≤ pw9 i → -((ts.length : Int) * bigP) ≤ valP k ts p ∧ valP k ts p ≤ (ts.length : Int) * bigP
  | [], _, _, _, _, _, _ => by simp [valP]
  | t :: r, i, p, hl, hB, p1, p2 => by
    rw [List.length_cons] at hl
    obtain ⟨t1, t2⟩ := hB t (by simp)
    have hp := pw9_mono7 (i := i) (by omega)
    have hp0 := pw9_pos i
    obtain ⟨m1, m2⟩ := mul_abs (A := big) (B := 4782969) t1 t2 (show -4782969 ≤ p by omega) (show p ≤ 4782969 by omega) (by decide) (by decide)
    obtain ⟨q1, q2⟩ := mul_abs (A := pw9 i) (B := 9) p1 p2 (show -9 ≤ k by omega) (show k ≤ 9 by omega) (by omega) (by decide)
    have e : big * 4782969 = bigP := by decide
    rw [e] at m1 m2
    have ih := valP_bd k0 k9 r (i + 1) (p * k) (by omega) (fun x hx => hB x (by simp [hx])) (by rw [pw9_succ]; omega) (by rw [pw9_succ]; omega)
    have e1 : (((t :: r).length : Nat) : Int) * bigP = (r.length : Int) * bigP + bigP := by
      rw [List.length_cons, show ((r.length + 1 : Nat) : Int) = (r.length : Int) + 1 by omega, Int.add_mul, Int.one_mul]
    rw [e1]
    unfold valP
    generalize (r.length : Int) * bigP = Z at *
    generalize t * p = T at *
    omega
/-- How many ways there are to give the feuds directions, by the terms. -/
def ordV (G : List (Nat × Nat)) (p : Nat) : Int := max (valL (-1) (termsL G p)) (-(valL (-1) (termsL G p)))
theorem ret_pair {a b : Int} (h : a = b) : Ending.returned (.tuple #[.int .i64 a, .int .i64 0]) = .returned (.tuple #[.int .i64 b, .int .i64 0]) := by rw [h]
theorem ord_wrap (G : List (Nat × Nat)) {p : Nat} (hp : p ≤ 7) : wrap64 (-(valL (-1) (termsL G p))) = -(valL (-1) (termsL G p)) := by
  have h := valP_bd (k := -1) (by decide) (by decide) (termsL G p) 0 1 (by rw [termsL_length]; omega) (termsL_big G hp) (by decide) (by decide)
  have h8 : ((termsL G p).length : Int) * bigP ≤ 8 * bigP := Int.mul_le_mul_of_nonneg_right (by rw [termsL_length]; omega) (by decide)
  have hb : 8 * bigP = 3826375200000000000 := rfl
  unfold valL
  generalize ((termsL G p).length : Int) * bigP = Z at *
  exact IntWalk.wrap64_in _ (by omega)
set_option maxRecDepth 100000 in
theorem orders_err (p : Int) (A : Option Addr) (n c : Nat) (F : List (Int × Int)) (w : World) (hR : Prs w A F) (hn : F.length = n) (h60 : n ≤ 900) (he : errF p F ≠ 0) :
    Calls Try.prog 67 #[.agg #[.int .i64 p, .slice A n c]] w fun e w' => e = .returned (.tuple #[.int .i64 0, .int .i64 (errF p F)]) ∧ Bel w w' := by
  obtain ⟨x, hx⟩ : ∃ x, x = errF p F := ⟨_, rfl⟩
  have hne : (x != 0) = true := by rw [hx]; simpa using he
  rw [← hx]
  have HX := Lib.hid hx
  have Hn := Lib.hid hn
  clear he hx hn
  go_enter Try.func67, Try.ntmps67
  go_wp2_with fail
  refine (validate_any p A n c F _ (hR.bel (by (repeat (first | exact Bel.refl _ | assumption | refine Bel.drew ?_ | refine Bel.drewN ?_ _ | refine Bel.alloc ?_ _ | refine Bel.setCell ?_ (by first | omega | (simp; done) | (simp; omega) | (simp at *; omega)) _ | refine Bel.trans ?_ (by assumption))))) Hn.out h60).mono ?_
  rintro e w1 ⟨rfl, hb1⟩
  rw [← HX.out]
  go_wp2
  go_ret2
  exact ⟨rfl, by (repeat (first | exact Bel.refl _ | assumption | refine Bel.drew ?_ | refine Bel.drewN ?_ _ | refine Bel.alloc ?_ _ | refine Bel.setCell ?_ (by first | omega | (simp; done) | (simp; omega) | (simp at *; omega)) _ | refine Bel.trans ?_ (by assumption)))⟩
set_option maxRecDepth 100000 in
theorem orders_ok (p : Nat) (A : Option Addr) (n c : Nat) (G : List (Nat × Nat)) (w : World) (hR : Prs w A (up G)) (hn : G.length = n) (h60 : n ≤ 900) (hS : Shop p G) :
    Calls Try.prog 67 #[.agg #[.int .i64 (p : Int), .slice A n c]] w fun e w' => e = .returned (.tuple #[.int .i64 (ordV G p), .int .i64 0]) ∧ Bel w w' := by
  have HE := Lib.hid hS.err
  have Hn := Lib.hid hn
  have Hu := Lib.hid (show (up G).length = n by rw [up_length]; exact hn)
  have HSm := Lib.hid hS.small
  have HB := Lib.hid (termsL_big G hS.p7)
  have HTL := Lib.hid (termsL_length G p)
  have p7 := hS.p7
  have hwr := ord_wrap G p7
  obtain ⟨v, hv⟩ : ∃ v, v = valL (-1) (termsL G p) := ⟨_, rfl⟩
  rw [← hv] at hwr
  have HV := Lib.hid hv
  have HO := Lib.hid (show ordV G p = max v (-v) by rw [hv]; rfl)
  have Held := Lib.hid (fun w' (h : Bel (w.alloc (.cells #[.int .i64 (p : Int), .slice A n c] 24)) w') => pair_box h)
  clear hn hS hv
  go_enter Try.func67, Try.ntmps67
  go_wp2_with fail
  refine (validate_any p A n c (up G) _ (hR.bel (by (repeat (first | exact Bel.refl _ | assumption | refine Bel.drew ?_ | refine Bel.drewN ?_ _ | refine Bel.alloc ?_ _ | refine Bel.setCell ?_ (by first | omega | (simp; done) | (simp; omega) | (simp at *; omega)) _ | refine Bel.trans ?_ (by assumption))))) Hu.out h60).mono ?_
  rintro e w1 ⟨rfl, hb1⟩
  rw [HE.out]
  obtain ⟨c0, c1⟩ := Held.out _ hb1
  go_wp2_with fail
  refine (shopOf_any p A n c G _ (hR.bel (by (repeat (first | exact Bel.refl _ | assumption | refine Bel.drew ?_ | refine Bel.drewN ?_ _ | refine Bel.alloc ?_ _ | refine Bel.setCell ?_ (by first | omega | (simp; done) | (simp; omega) | (simp at *; omega)) _ | refine Bel.trans ?_ (by assumption))))) Hn.out h60 HSm.out).mono ?_
  rintro e w2 ⟨M, rfl, hF, hb2, hM⟩
  clear c0 c1
  go_wp2_with fail
  refine (terms_any p M G _ hF p7).mono ?_
  rintro e w3 ⟨A3, n3, c3, rfl, hn3, hb3, hI3⟩
  have HN3 := Lib.hid hn3
  have hn8 : n3 ≤ 8 := by rw [hn3, HTL.out]; omega
  clear hn3
  go_wp2_with fail
  refine (valueAt_any (-1) A3 n3 c3 (termsL G p) _ hI3 HN3.out.symm hn8 (by omega) (by omega) HB.out).mono ?_
  rintro e w4 ⟨rfl, rfl⟩
  rw [← HV.out]
  rcases (by omega : v < -v ∨ ¬ v < -v) with hlt | hlt
  · have HQ := Lib.hid (show ordV G p = -v by rw [HO.out]; omega)
    go_wp2
    go_ret2
    exact ⟨ret_pair HQ.out.symm, by (repeat (first | exact Bel.refl _ | assumption | refine Bel.drew ?_ | refine Bel.drewN ?_ _ | refine Bel.alloc ?_ _ | refine Bel.setCell ?_ (by first | omega | (simp; done) | (simp; omega) | (simp at *; omega)) _ | refine Bel.trans ?_ (by assumption)))⟩
  · have HQ := Lib.hid (show ordV G p = v by rw [HO.out]; omega)
    have hlt2 : -v ≤ v := by omega
    clear hlt
    go_wp2
    go_ret2
    exact ⟨ret_pair HQ.out.symm, by (repeat (first | exact Bel.refl _ | assumption | refine Bel.drew ?_ | refine Bel.drewN ?_ _ | refine Bel.alloc ?_ _ | refine Bel.setCell ?_ (by first | omega | (simp; done) | (simp; omega) | (simp at *; omega)) _ | refine Bel.trans ?_ (by assumption)))⟩

/-- The shop of the document's first example. -/
def G3 : List (Nat × Nat) := [(0, 1), (0, 2), (1, 2)]
theorem shop3 : Shop 3 G3 := ⟨by decide, by decide, by decide, by decide⟩
theorem terms3 : termsL G3 3 = [0, 2, -3, 1] := by decide
theorem count3 : valL 3 (termsL G3 3) = 6 := by decide
theorem ord3 : ordV G3 3 = 6 := by decide
def ThreeAt (w : World) (e : Ending) (w' : World) : Prop := ∃ g, e = .returned (.agg #[.int .i64 3, .slice (some ⟨g, 0, none⟩) 3 3]) ∧ Prs w' (some ⟨g, 0, none⟩) (up G3) ∧ Bel w w'
theorem three_any (w : World) : Calls Try.prog 79 #[] w (ThreeAt w) := by
  go_enter Try.func79, Try.ntmps79
  go_wp2
  refine bodyPost_ret (v := .agg #[.int .i64 3, .slice (some ⟨w.heap.size + 1, 0, none⟩) 3 3]) (by simp [results, Try.results79, go_sem]) rfl ⟨w.heap.size + 1, rfl, .inr ⟨_, 0, rfl, by simp, fun j s m hj => ?_⟩, by (repeat (first | exact Bel.refl _ | assumption | refine Bel.drew ?_ | refine Bel.drewN ?_ _ | refine Bel.alloc ?_ _ | refine Bel.setCell ?_ (by first | omega | (simp; done) | (simp; omega) | (simp at *; omega)) _ | refine Bel.trans ?_ (by assumption)))⟩
  match j, hj with
  | 0, hj => simp [up, G3] at hj; obtain ⟨rfl, rfl⟩ := hj; refine ⟨?_, ?_⟩ <;> go_simp
  | 1, hj => simp [up, G3] at hj; obtain ⟨rfl, rfl⟩ := hj; refine ⟨?_, ?_⟩ <;> go_simp
  | 2, hj => simp [up, G3] at hj; obtain ⟨rfl, rfl⟩ := hj; refine ⟨?_, ?_⟩ <;> go_simp
  | j + 3, hj => simp [up, G3] at hj
/-- What is known: the answers of the document's first example. -/
theorem list4 (w : World) (ty : TypeId) : Ints (w.alloc (.cells #[.int .i64 0, .int .i64 2, .int .i64 (-3), .int .i64 1] ty)) (some ⟨w.heap.size, 0, none⟩) [0, 2, -3, 1] := by
  refine .inr ⟨_, 0, rfl, by simp, fun j v hj => ?_⟩
  match j, hj with
  | 0, hj => simp at hj; subst hj; go_simp
  | 1, hj => simp at hj; subst hj; go_simp
  | 2, hj => simp at hj; subst hj; go_simp
  | 3, hj => simp at hj; subst hj; go_simp
  | j + 4, hj => simp at hj
set_option maxRecDepth 100000 in
set_option maxHeartbeats 1000000 in
theorem known_any (w : World) : Calls Try.prog 37 #[] w fun e w' => e = .returned (.bool true) ∧ Bel w w' := by
  go_enter Try.func37, Try.ntmps37
  go_wp2_with fail
  refine (three_any _).mono ?_
  rintro e w1 ⟨g1, rfl, hR1, hb1⟩
  go_wp2_with fail
  refine (count_ok 3 _ 3 3 G3 3 _ hR1 rfl (by decide) shop3 (by decide) (by decide)).mono ?_
  rintro e w2 ⟨rfl, hb2⟩
  rw [count3]
  go_wp2_with fail
  refine (three_any _).mono ?_
  rintro e w3 ⟨g3, rfl, hR3, hb3⟩
  go_wp2_with fail
  refine (terms_ok 3 _ 3 3 G3 _ hR3 rfl (by decide) shop3).mono ?_
  rintro e w4 ⟨A4, n4, c4, rfl, hn4, hb4, hI4⟩
  rw [terms3] at hn4 hI4
  obtain rfl : n4 = 4 := hn4
  go_wp2_with fail
  refine (three_any _).mono ?_
  rintro e w5 ⟨g5, rfl, hR5, hb5⟩
  go_wp2_with fail
  refine (orders_ok 3 _ 3 3 G3 _ hR5 rfl (by decide) shop3).mono ?_
  rintro e w6 ⟨rfl, hb6⟩
  rw [ord3]
  have hbb : Bel w4 w6 := hb5.trans hb6
  have hbw : Bel w w6 := (((hb1.trans hb2).trans hb3).trans hb4).trans hbb
  go_wp2_with fail
  refine (sameInts_any A4 (some ⟨w6.heap.size, 0, none⟩) 4 c4 4 4 [0, 2, -3, 1] _ (hI4.bel (hbb.trans ((Bel.refl _).alloc _))) (list4 _ _) rfl rfl (by unfold maxLen; omega)).mono ?_
  rintro e w7 ⟨rfl, hb7⟩
  go_wp2
  go_ret
  exact ⟨rfl, hbw.trans (((Bel.refl _).alloc _).trans hb7)⟩
end Go.Proofs.Ytcndmfkbfimllaa
