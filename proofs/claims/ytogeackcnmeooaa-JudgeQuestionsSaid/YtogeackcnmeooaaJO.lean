/- Judging: which questions are right. -/
import Derived.Test.YtogeackcnmeooaaJN
namespace Go.Proofs.Ytogeackcnmeooaa
open Go.RowKit

/-- What CheckQuestion answers. -/
def chkV (a b x y q : Int) : Int :=
  if inS a b ∧ 0 ≤ q ∧ q ≤ 12 then if q = 0 then 1 else if inQ a b x y then if good (q.toNat - 1) a.toNat b.toNat x.toNat y.toNat = true then 0 else 7 else 8 else 1
theorem chk_err {a b x y q : Int} (h : ¬ (inS a b ∧ 0 ≤ q ∧ q ≤ 12)) : chkV a b x y q = 1 := if_neg h
theorem chk_zero {a b x y : Int} : chkV a b x y 0 = 1 := by
  unfold chkV
  split
  · rw [if_pos rfl]
  · rfl
theorem chk_rule {a b x y q : Int} (h : inS a b ∧ 0 ≤ q ∧ q ≤ 12) (hq : q ≠ 0) (h2 : ¬ inQ a b x y) : chkV a b x y q = 8 := by
  unfold chkV
  rw [if_pos h, if_neg hq, if_neg h2]
theorem chk_ok {a b x y p : Nat} (ha : a ≤ 16) (hb : b ≤ 16) (hx : x ≤ a) (hy : y ≤ b) (hp : p + 1 ≤ 12) : chkV a b x y ((p + 1 : Nat) : Int) = if good p a b x y = true then 0 else 7 := by
  unfold chkV
  rw [if_pos ⟨inS_of ha hb, by omega, by omega⟩, if_neg (by omega), if_pos ⟨by omega, by omega, by omega, by omega⟩]
  rfl
theorem afterOf_nat (a b x y c d : Nat) (yes : Bool) (w : World) (ha : a ≤ 16) (hb : b ≤ 16) (hx : x ≤ a) (hy : y ≤ b) (hc : c = if yes then x else a - x) (hd : d = if yes then y + (a - x) else b - y + x) :
    Calls Try.prog 63 #[.int .i64 (a : Int), .int .i64 (b : Int), .int .i64 (x : Int), .int .i64 (y : Int), .bool yes] w fun e w' => e = .returned (.tuple #[.agg #[.int .i64 (c : Int), .int .i64 (d : Int)], .int .i64 0]) ∧ Bel w w' := by
  have h := afterOf_any a b x y yes w
  obtain ⟨e1, e2, e3⟩ := aft_ok (yes := yes) (inS_of ha hb) (show inQ a b x y from ⟨by omega, by omega, by omega, by omega⟩)
  have k1 : aft1 (a : Int) b x y yes = (c : Int) := by
    rw [e1, hc]
    cases yes
    · simp only [Bool.false_eq_true, if_false]; omega
    · simp only [if_true]
  have k2 : aft2 (a : Int) b x y yes = (d : Int) := by
    rw [e2, hd]
    cases yes
    · simp only [Bool.false_eq_true, if_false]; omega
    · simp only [if_true]; omega
  unfold AftOf at h
  rwa [k1, k2, e3] at h
theorem wCheck_err (a b x y q : Int) (w : World) (h : ¬ (inS a b ∧ 0 ≤ q ∧ q ≤ 12)) :
    Calls Try.prog 38 #[.int .i64 a, .int .i64 b, .int .i64 x, .int .i64 y, .int .i64 q] w fun e w' => e = .returned (.int .i64 1) ∧ Bel w w' := by
  have HE := Lib.hid (errQ_no h)
  clear h
  go_enter Try.func38, Try.ntmps38
  go_wp2_with (go_at_call 65; refine (valQ_any _ _ _ _).mono ?_; rintro e w1 ⟨rfl, rfl⟩; rw [HE.out])
  go_ret
  exact ⟨rfl, Bel.refl _⟩
theorem wCheck_zero (a b x y : Int) (w : World) (h : inS a b) :
    Calls Try.prog 38 #[.int .i64 a, .int .i64 b, .int .i64 x, .int .i64 y, .int .i64 0] w fun e w' => e = .returned (.int .i64 1) ∧ Bel w w' := by
  have HE := Lib.hid (errQ_ok (q := 0) h (by omega) (by omega))
  clear h
  go_enter Try.func38, Try.ntmps38
  go_wp2_with (go_at_call 65; refine (valQ_any _ _ _ _).mono ?_; rintro e w1 ⟨rfl, rfl⟩; rw [HE.out])
  go_ret
  exact ⟨rfl, Bel.refl _⟩
theorem yesno {w w' : World} {t : TypeId} (h : Bel (w.alloc (.cells #[.bool true, .bool false] t)) w') : w'.cell? ⟨w.heap.size, 0, none⟩ = some (.bool true) ∧ w'.cell? ⟨w.heap.size, 1, none⟩ = some (.bool false) := by
  refine ⟨?_, ?_⟩ <;> (rw [h.use.1 _ _ (by simp)]; go_simp)
set_option maxHeartbeats 1000000 in
theorem wCheck_rule (a b x y q : Int) (w : World) (h : inS a b ∧ 0 ≤ q ∧ q ≤ 12) (hq : q ≠ 0) (h2 : ¬ inQ a b x y) :
    Calls Try.prog 38 #[.int .i64 a, .int .i64 b, .int .i64 x, .int .i64 y, .int .i64 q] w fun e w' => e = .returned (.int .i64 8) ∧ Bel w w' := by
  have HE := Lib.hid (errQ_ok h.1 h.2.1 h.2.2)
  obtain ⟨e1, e2, e3⟩ := aft_e8 (yes := true) h.1 h2
  have hA := afterOf_any a b x y true
  unfold AftOf at hA
  rw [e1, e2, e3] at hA
  have HA := Lib.hid hA
  have hz : (q == 0) = false := by simpa using hq
  clear h h2 e1 e2 e3 hA hq
  go_enter Try.func38, Try.ntmps38
  go_wp2_with (go_at_call 65; refine (valQ_any _ _ _ _).mono ?_; rintro e w1 ⟨rfl, rfl⟩; rw [HE.out])
  refine wp_loop_rounds 1 ?_
  rw [rounds_succ]
  go_wp2_with fail
  refine (HA.out _).mono ?_
  rintro e w1 ⟨rfl, hb1⟩
  go_wp2
  go_ret
  exact ⟨rfl, by (repeat (first | exact Bel.refl _ | assumption | refine Bel.drew ?_ | refine Bel.drewN ?_ _ | refine Bel.alloc ?_ _ | refine Bel.setCell ?_ (by first | omega | (simp; done) | (simp; omega) | (simp at *; omega)) _ | refine Bel.trans ?_ (by assumption)))⟩
set_option maxRecDepth 100000 in
set_option maxHeartbeats 2000000 in
theorem wCheck_ok (a b x y p : Nat) (w : World) (ha : a ≤ 16) (hb : b ≤ 16) (hx : x ≤ a) (hy : y ≤ b) (hp : p + 1 ≤ 12) :
    Calls Try.prog 38 #[.int .i64 (a : Int), .int .i64 (b : Int), .int .i64 (x : Int), .int .i64 (y : Int), .int .i64 ((p : Int) + 1)] w fun e w' => e = .returned (.int .i64 (if good p a b x y = true then 0 else 7)) ∧ Bel w w' := by
  have HE := Lib.hid (errQ_ok (inS_of ha hb) (show (0 : Int) ≤ (p : Int) + 1 by omega) (by omega))
  have hp12 : (p : Int) + 1 ≤ 12 := by omega
  have hz : ((p : Int) + 1 == 0) = false := by simp; omega
  obtain ⟨c, hc⟩ : ∃ c, c = y + (a - x) := ⟨_, rfl⟩
  obtain ⟨d, hd⟩ : ∃ d, d = a - x := ⟨_, rfl⟩
  obtain ⟨f, hf⟩ : ∃ f, f = b - y + x := ⟨_, rfl⟩
  have hgd : good p a b x y = (en p x c && en p d f) := by unfold good; rw [hc, hd, hf]
  have hm1 : x + c ≤ 48 := by omega
  have hm2 : d + f ≤ 48 := by omega
  rw [hgd]
  have HC := Lib.hid hc; have HD := Lib.hid hd; have HF := Lib.hid hf
  clear hc hd hf hgd
  cases h1 : en p x c
  · have H1 := Lib.hid h1
    rw [show (if (false && en p d f) = true then (0 : Int) else 7) = 7 from rfl]
    clear h1
    go_enter Try.func38, Try.ntmps38
    go_wp2_with (go_at_call 65; refine (valQ_any _ _ _ _).mono ?_; rintro e w1 ⟨rfl, rfl⟩; rw [HE.out])
    refine wp_loop_rounds 1 ?_
    rw [rounds_succ]
    go_wp2_with fail
    refine (afterOf_nat a b x y x c true _ ha hb hx hy rfl HC.out).mono ?_
    rintro e w1 ⟨rfl, hb1⟩
    go_wp2_with fail
    refine (enough_any x c p _ hm1 (by omega)).mono ?_
    rintro e w2 ⟨rfl, hb2⟩
    rw [H1.out]
    go_wp2
    go_ret
    exact ⟨rfl, by (repeat (first | exact Bel.refl _ | assumption | refine Bel.drew ?_ | refine Bel.drewN ?_ _ | refine Bel.alloc ?_ _ | refine Bel.setCell ?_ (by first | omega | (simp; done) | (simp; omega) | (simp at *; omega)) _ | refine Bel.trans ?_ (by assumption)))⟩
  · have H1 := Lib.hid h1
    obtain ⟨u, hu⟩ : ∃ u, u = en p d f := ⟨_, rfl⟩
    rw [← hu]
    have HU := Lib.hid hu
    clear h1 hu
    have h7 : (if (true && u) = true then (0 : Int) else 7) = if u = true then 0 else 7 := by simp
    rw [h7]
    clear h7
    cases u
    · rw [show (if false = true then (0 : Int) else 7) = 7 from rfl]
      go_enter Try.func38, Try.ntmps38
      go_wp2_with (go_at_call 65; refine (valQ_any _ _ _ _).mono ?_; rintro e w1 ⟨rfl, rfl⟩; rw [HE.out])
      refine wp_loop_rounds 2 ?_
      rw [rounds_succ]
      (go_wp2_with fail; refine (afterOf_nat a b x y x c true _ ha hb hx hy rfl HC.out).mono ?_; rintro e w1 ⟨rfl, hb1⟩; obtain ⟨y1, y2⟩ := yesno hb1; go_wp2_with fail; refine (enough_any x c p _ hm1 (by omega)).mono ?_; rintro e w2 ⟨rfl, hb2⟩; rw [H1.out]; have hb12 : Bel w1 w2 := (by (repeat (first | exact Bel.refl _ | assumption | refine Bel.drew ?_ | refine Bel.drewN ?_ _ | refine Bel.alloc ?_ _ | refine Bel.setCell ?_ (by first | omega | (simp; done) | (simp; omega) | (simp at *; omega)) _ | refine Bel.trans ?_ (by assumption)))); have y3 := (hb12.use.1 w.heap.size 1 (by have h := hb1.size; rw [World.size_alloc] at h; omega)).trans y2; clear y1 y2; go_wp2; rw [rounds_succ])
      go_wp2_with fail
      refine (afterOf_nat a b x y d f false _ ha hb hx hy HD.out HF.out).mono ?_
      rintro e w3 ⟨rfl, hb3⟩
      go_wp2_with fail
      refine (enough_any d f p _ hm2 (by omega)).mono ?_
      rintro e w4 ⟨rfl, hb4⟩
      rw [← HU.out]
      go_wp2
      go_ret
      exact ⟨rfl, by (repeat (first | exact Bel.refl _ | assumption | refine Bel.drew ?_ | refine Bel.drewN ?_ _ | refine Bel.alloc ?_ _ | refine Bel.setCell ?_ (by first | omega | (simp; done) | (simp; omega) | (simp at *; omega)) _ | refine Bel.trans ?_ (by assumption)))⟩
    · rw [show (if true = true then (0 : Int) else 7) = 0 from rfl]
      go_enter Try.func38, Try.ntmps38
      go_wp2_with (go_at_call 65; refine (valQ_any _ _ _ _).mono ?_; rintro e w1 ⟨rfl, rfl⟩; rw [HE.out])
      refine wp_loop_rounds 3 ?_
      rw [rounds_succ]
      (go_wp2_with fail; refine (afterOf_nat a b x y x c true _ ha hb hx hy rfl HC.out).mono ?_; rintro e w1 ⟨rfl, hb1⟩; obtain ⟨y1, y2⟩ := yesno hb1; go_wp2_with fail; refine (enough_any x c p _ hm1 (by omega)).mono ?_; rintro e w2 ⟨rfl, hb2⟩; rw [H1.out]; have hb12 : Bel w1 w2 := (by (repeat (first | exact Bel.refl _ | assumption | refine Bel.drew ?_ | refine Bel.drewN ?_ _ | refine Bel.alloc ?_ _ | refine Bel.setCell ?_ (by first | omega | (simp; done) | (simp; omega) | (simp at *; omega)) _ | refine Bel.trans ?_ (by assumption)))); have y3 := (hb12.use.1 w.heap.size 1 (by have h := hb1.size; rw [World.size_alloc] at h; omega)).trans y2; clear y1 y2; go_wp2; rw [rounds_succ])
      go_wp2_with fail
      refine (afterOf_nat a b x y d f false _ ha hb hx hy HD.out HF.out).mono ?_
      rintro e w3 ⟨rfl, hb3⟩
      go_wp2_with fail
      refine (enough_any d f p _ hm2 (by omega)).mono ?_
      rintro e w4 ⟨rfl, hb4⟩
      rw [← HU.out]
      go_wp2
      rw [rounds_succ]
      go_wp2
      go_ret
      exact ⟨rfl, by (repeat (first | exact Bel.refl _ | assumption | refine Bel.drew ?_ | refine Bel.drewN ?_ _ | refine Bel.alloc ?_ _ | refine Bel.setCell ?_ (by first | omega | (simp; done) | (simp; omega) | (simp at *; omega)) _ | refine Bel.trans ?_ (by assumption)))⟩
end Go.Proofs.Ytogeackcnmeooaa
