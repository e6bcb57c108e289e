/- Judging: After, the document's and the program's; the document's Weight. -/
import Derived.Test.YtogeackcnmeooaaQO
namespace Go.Proofs.Ytogeackcnmeooaa
open Go.RowKit

def within (n lo hi : Int) : Bool := decide (lo ≤ n) && decide (n ≤ hi)
theorem within_iff {n lo hi : Int} : within n lo hi = true ↔ lo ≤ n ∧ n ≤ hi := by simp [within]
theorem within_any (n lo hi : Int) (w : World) :
    Calls Try.prog 61 #[.int .i64 n, .int .i64 lo, .int .i64 hi] w fun e w' => e = .returned (.bool (within n lo hi)) ∧ w = w' := by
  go_enter Try.func61, Try.ntmps61
  go_wp2
  all_goals (go_ret; exact ⟨by simp [within]; omega, rfl⟩)
theorem within_yes (n lo hi : Int) (w : World) (h : lo ≤ n ∧ n ≤ hi) :
    Calls Try.prog 61 #[.int .i64 n, .int .i64 lo, .int .i64 hi] w fun e w' => e = .returned (.bool true) ∧ w = w' := by
  have := within_any n lo hi w
  rwa [within_iff.2 h] at this
theorem within_no (n lo hi : Int) (w : World) (h : ¬ (lo ≤ n ∧ n ≤ hi)) :
    Calls Try.prog 61 #[.int .i64 n, .int .i64 lo, .int .i64 hi] w fun e w' => e = .returned (.bool false) ∧ w = w' := by
  have := within_any n lo hi w
  have e : within n lo hi = false := by rw [Bool.eq_false_iff]; exact fun k => h (within_iff.1 k)
  rwa [e] at this
theorem asked_any (a b q : Int) (w : World) :
    Calls Try.prog 60 #[.int .i64 a, .int .i64 b, .int .i64 q] w fun e w' => e = .returned (.int .i64 (errQ a b q)) ∧ w = w' := by
  by_cases h1 : 0 ≤ a ∧ a ≤ 16
  · by_cases h2 : 0 ≤ b ∧ b ≤ 16
    · by_cases h3 : 0 ≤ q ∧ q ≤ 12
      · have HE := Lib.hid (errQ_ok (a := a) (b := b) ⟨h1.1, h1.2, h2.1, h2.2⟩ h3.1 h3.2)
        have H1 := Lib.hid h1; have H2 := Lib.hid h2; have H3 := Lib.hid h3
        clear h1 h2 h3
        go_enter Try.func60, Try.ntmps60
        go_wp2_with fail
        refine (within_yes _ _ _ _ H1.out).mono ?_
        rintro e w1 ⟨rfl, rfl⟩
        go_wp2_with fail
        refine (within_yes _ _ _ _ H2.out).mono ?_
        rintro e w1 ⟨rfl, rfl⟩
        go_wp2_with fail
        refine (within_yes _ _ _ _ H3.out).mono ?_
        rintro e w1 ⟨rfl, rfl⟩
        go_wp2
        go_ret
        exact ⟨ret_int HE.out.symm, rfl⟩
      · have HE := Lib.hid (errQ_no (a := a) (b := b) (fun k => h3 ⟨k.2.1, k.2.2⟩))
        have H1 := Lib.hid h1; have H2 := Lib.hid h2; have H3 := Lib.hid h3
        clear h1 h2 h3
        go_enter Try.func60, Try.ntmps60
        go_wp2_with fail
        refine (within_yes _ _ _ _ H1.out).mono ?_
        rintro e w1 ⟨rfl, rfl⟩
        go_wp2_with fail
        refine (within_yes _ _ _ _ H2.out).mono ?_
        rintro e w1 ⟨rfl, rfl⟩
        go_wp2_with fail
        refine (within_no _ _ _ _ H3.out).mono ?_
        rintro e w1 ⟨rfl, rfl⟩
        go_wp2
        go_ret
        exact ⟨ret_int HE.out.symm, rfl⟩
    · have HE := Lib.hid (errQ_no (q := q) (a := a) (b := b) (fun k => h2 ⟨k.1.2.2.1, k.1.2.2.2⟩))
      have H1 := Lib.hid h1; have H2 := Lib.hid h2
      clear h1 h2
      go_enter Try.func60, Try.ntmps60
      go_wp2_with fail
      refine (within_yes _ _ _ _ H1.out).mono ?_
      rintro e w1 ⟨rfl, rfl⟩
      go_wp2_with fail
      refine (within_no _ _ _ _ H2.out).mono ?_
      rintro e w1 ⟨rfl, rfl⟩
      go_wp2
      go_ret
      exact ⟨ret_int HE.out.symm, rfl⟩
  · have HE := Lib.hid (errQ_no (q := q) (a := a) (b := b) (fun k => h1 ⟨k.1.1, k.1.2.1⟩))
    have H1 := Lib.hid h1
    clear h1
    go_enter Try.func60, Try.ntmps60
    go_wp2_with fail
    refine (within_no _ _ _ _ H1.out).mono ?_
    rintro e w1 ⟨rfl, rfl⟩
    go_wp2
    go_ret
    exact ⟨ret_int HE.out.symm, rfl⟩

/-- The state after an answer. -/
def inQ (a b x y : Int) : Prop := 0 ≤ x ∧ x ≤ a ∧ 0 ≤ y ∧ y ≤ b
instance (a b x y : Int) : Decidable (inQ a b x y) := by unfold inQ; infer_instance
def aft1 (a b x y : Int) (yes : Bool) : Int := if inS a b ∧ inQ a b x y then if yes then x else a - x else 0
def aft2 (a b x y : Int) (yes : Bool) : Int := if inS a b ∧ inQ a b x y then if yes then y + a - x else b - y + x else 0
def errW (a b x y : Int) : Int := if inS a b then if inQ a b x y then 0 else 8 else 1
theorem aft_e1 {a b x y : Int} {yes : Bool} (h : ¬ inS a b) : aft1 a b x y yes = 0 ∧ aft2 a b x y yes = 0 ∧ errW a b x y = 1 :=
  ⟨if_neg (fun k => h k.1), if_neg (fun k => h k.1), if_neg h⟩
theorem aft_e8 {a b x y : Int} {yes : Bool} (h : inS a b) (h2 : ¬ inQ a b x y) : aft1 a b x y yes = 0 ∧ aft2 a b x y yes = 0 ∧ errW a b x y = 8 :=
  ⟨if_neg (fun k => h2 k.2), if_neg (fun k => h2 k.2), by unfold errW; rw [if_pos h, if_neg h2]⟩
theorem aft_ok {a b x y : Int} {yes : Bool} (h : inS a b) (h2 : inQ a b x y) : aft1 a b x y yes = (if yes then x else a - x) ∧ aft2 a b x y yes = (if yes then y + a - x else b - y + x) ∧ errW a b x y = 0 :=
  ⟨if_pos ⟨h, h2⟩, if_pos ⟨h, h2⟩, by unfold errW; rw [if_pos h, if_pos h2]⟩
theorem errS_eq (a b : Int) : errQ a b 0 = errS a b := by
  unfold errQ errS
  by_cases h : inS a b
  · rw [if_pos ⟨h, by omega, by omega⟩, if_pos h]
  · rw [if_neg (fun k => h k.1), if_neg h]
theorem ret_ints3 {a b c a' b' c' : Int} (h1 : a = a') (h2 : b = b') (h3 : c = c') : Ending.returned (.tuple #[.int .i64 a, .int .i64 b, .int .i64 c]) = .returned (.tuple #[.int .i64 a', .int .i64 b', .int .i64 c']) := by rw [h1, h2, h3]
set_option maxHeartbeats 1000000 in
theorem rAfter_any (a b x y : Int) (yes : Bool) (w : World) :
    Calls Try.prog 24 #[.int .i64 a, .int .i64 b, .int .i64 x, .int .i64 y, .bool yes] w fun e w' => e = .returned (.tuple #[.int .i64 (aft1 a b x y yes), .int .i64 (aft2 a b x y yes), .int .i64 (errW a b x y)]) ∧ w = w' := by
  by_cases h : inS a b
  · have HE := Lib.hid ((errS_eq a b).trans (errS_ok h))
    obtain ⟨i1, i2, i3, i4⟩ := id h
    by_cases hx : 0 ≤ x ∧ x ≤ a
    · by_cases hy : 0 ≤ y ∧ y ≤ b
      · have HA := Lib.hid (aft_ok (yes := yes) h ⟨hx.1, hx.2, hy.1, hy.2⟩)
        have H1 := Lib.hid hx; have H2 := Lib.hid hy
        obtain ⟨x1, x2⟩ := hx
        obtain ⟨y1, y2⟩ := hy
        clear h
        cases yes
        · go_enter Try.func24, Try.ntmps24
          go_wp2_with (first | (go_at_call 60; refine (asked_any _ _ _ _).mono ?_; rintro e w1 ⟨rfl, rfl⟩; rw [HE.out]) | (go_at_call 61; refine (within_yes _ _ _ _ (by first | exact H1.out | exact H2.out)).mono ?_; rintro e w1 ⟨rfl, rfl⟩) | go_in)
          go_ret3
          exact ⟨ret_ints3 HA.out.1.symm HA.out.2.1.symm HA.out.2.2.symm, rfl⟩
        · go_enter Try.func24, Try.ntmps24
          go_wp2_with (first | (go_at_call 60; refine (asked_any _ _ _ _).mono ?_; rintro e w1 ⟨rfl, rfl⟩; rw [HE.out]) | (go_at_call 61; refine (within_yes _ _ _ _ (by first | exact H1.out | exact H2.out)).mono ?_; rintro e w1 ⟨rfl, rfl⟩) | go_in)
          go_ret3
          exact ⟨ret_ints3 HA.out.1.symm HA.out.2.1.symm HA.out.2.2.symm, rfl⟩
      · have HA := Lib.hid (aft_e8 (yes := yes) h (fun k : inQ a b x y => hy ⟨k.2.2.1, k.2.2.2⟩))
        have H1 := Lib.hid hx; have H2 := Lib.hid hy
        clear h hx hy
        go_enter Try.func24, Try.ntmps24
        go_wp2_with (go_at_call 60; refine (asked_any _ _ _ _).mono ?_; rintro e w1 ⟨rfl, rfl⟩; rw [HE.out])
        refine (within_yes _ _ _ _ H1.out).mono ?_
        rintro e w1 ⟨rfl, rfl⟩
        go_wp2_with fail
        refine (within_no _ _ _ _ H2.out).mono ?_
        rintro e w1 ⟨rfl, rfl⟩
        go_wp2
        go_ret3
        exact ⟨ret_ints3 HA.out.1.symm HA.out.2.1.symm HA.out.2.2.symm, rfl⟩
    · have HA := Lib.hid (aft_e8 (yes := yes) h (fun k : inQ a b x y => hx ⟨k.1, k.2.1⟩))
      have H1 := Lib.hid hx
      clear h hx
      go_enter Try.func24, Try.ntmps24
      go_wp2_with (go_at_call 60; refine (asked_any _ _ _ _).mono ?_; rintro e w1 ⟨rfl, rfl⟩; rw [HE.out])
      refine (within_no _ _ _ _ H1.out).mono ?_
      rintro e w1 ⟨rfl, rfl⟩
      go_wp2
      go_ret3
      exact ⟨ret_ints3 HA.out.1.symm HA.out.2.1.symm HA.out.2.2.symm, rfl⟩
  · have HE := Lib.hid ((errS_eq a b).trans (errS_no h))
    have HA := Lib.hid (aft_e1 (x := x) (y := y) (yes := yes) h)
    clear h
    go_enter Try.func24, Try.ntmps24
    go_wp2_with (go_at_call 60; refine (asked_any _ _ _ _).mono ?_; rintro e w1 ⟨rfl, rfl⟩; rw [HE.out])
    go_ret3
    exact ⟨ret_ints3 HA.out.1.symm HA.out.2.1.symm HA.out.2.2.symm, rfl⟩
/-- What Weight answers. -/
def weightV (a b q : Int) : Int := if inS a b ∧ 0 ≤ q ∧ q ≤ 12 then a * (q + 1) + b else 0
theorem rWeight_any (a b q : Int) (w : World) :
    Calls Try.prog 30 #[.int .i64 a, .int .i64 b, .int .i64 q] w fun e w' => e = .returned (.tuple #[.int .i64 (weightV a b q), .int .i64 (errQ a b q)]) ∧ w = w' := by
  by_cases h : inS a b ∧ 0 ≤ q ∧ q ≤ 12
  · have e1 : weightV a b q = a * (q + 1) + b := if_pos h
    obtain ⟨h1, h2, h3⟩ := h
    rw [errQ_ok h1 h2 h3, e1]
    have HE := Lib.hid (errQ_ok h1 h2 h3)
    obtain ⟨i1, i2, i3, i4⟩ := h1
    have m1 : 0 ≤ a * (q + 1) := Int.mul_nonneg i1 (by omega)
    have m2 : a * (q + 1) ≤ 16 * 13 := Int.mul_le_mul i2 (by omega) (by omega) (by omega)
    clear e1
    go_enter Try.func30, Try.ntmps30
    go_wp2_with (go_at_call 60; refine (asked_any _ _ _ _).mono ?_; rintro e w1 ⟨rfl, rfl⟩; rw [HE.out])
    go_ret2
    exact ⟨rfl, rfl⟩
  · have e1 : weightV a b q = 0 := if_neg h
    rw [errQ_no h, e1]
    have HE := Lib.hid (errQ_no h)
    clear e1 h
    go_enter Try.func30, Try.ntmps30
    go_wp2_with (go_at_call 60; refine (asked_any _ _ _ _).mono ?_; rintro e w1 ⟨rfl, rfl⟩; rw [HE.out])
    go_ret2
    exact ⟨rfl, rfl⟩
theorem wWeight_any (a b q : Int) (w : World) :
    Calls Try.prog 31 #[.int .i64 a, .int .i64 b, .int .i64 q] w fun e w' => e = .returned (.tuple #[.int .i64 (weightV a b q), .int .i64 (errQ a b q)]) ∧ Bel w w' := by
  by_cases h : inS a b ∧ 0 ≤ q ∧ q ≤ 12
  · have e1 : weightV a b q = a * (q + 1) + b := if_pos h
    obtain ⟨h1, h2, h3⟩ := h
    rw [errQ_ok h1 h2 h3, e1]
    obtain ⟨a, b, rfl, rfl, ha, hb⟩ := inS_nat h1
    obtain ⟨q, rfl⟩ := Int.eq_ofNat_of_zero_le h2
    have := wWeight_ok a b q w ha hb (by omega)
    simpa using this
  · have e1 : weightV a b q = 0 := if_neg h
    rw [errQ_no h, e1]
    exact wWeight_err a b q w h
end Go.Proofs.Ytogeackcnmeooaa
