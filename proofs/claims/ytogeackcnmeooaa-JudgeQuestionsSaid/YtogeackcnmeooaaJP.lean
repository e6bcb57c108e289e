/- Judging: the document's CheckQuestion; Question. -/
import Derived.Test.YtogeackcnmeooaaJO
namespace Go.Proofs.Ytogeackcnmeooaa
open Go.RowKit

theorem rafter_nat (a b x y c d : Nat) (yes : Bool) (w : World) (ha : a ≤ 16) (hb : b ≤ 16) (hx : x ≤ a) (hy : y ≤ b) (hc : c = if yes then x else a - x) (hd : d = if yes then y + (a - x) else b - y + x) :
    Calls Try.prog 62 #[.int .i64 (a : Int), .int .i64 (b : Int), .int .i64 (x : Int), .int .i64 (y : Int), .bool yes] w fun e w' => e = .returned (.tuple #[.int .i64 (c : Int), .int .i64 (d : Int)]) ∧ w = w' := by
  have hai : (a : Int) ≤ 16 := by omega
  have hbi : (b : Int) ≤ 16 := by omega
  have hxi : (x : Int) ≤ (a : Int) := by omega
  have hyi : (y : Int) ≤ (b : Int) := by omega
  cases yes
  · have k1 : (c : Int) = (a : Int) - (x : Int) := by rw [hc]; simp only [Bool.false_eq_true, if_false]; omega
    have k2 : (d : Int) = (b : Int) - (y : Int) + (x : Int) := by rw [hd]; simp only [Bool.false_eq_true, if_false]; omega
    rw [k1, k2]
    clear k1 k2 hc hd hx hy ha hb
    go_enter Try.func62, Try.ntmps62
    go_wp2
    go_ret2
    exact ⟨rfl, rfl⟩
  · have k1 : (c : Int) = (x : Int) := by rw [hc]; simp only [if_true]
    have k2 : (d : Int) = (y : Int) + (a : Int) - (x : Int) := by rw [hd]; simp only [if_true]; omega
    rw [k1, k2]
    clear k1 k2 hc hd hx hy ha hb
    go_enter Try.func62, Try.ntmps62
    go_wp2
    go_ret2
    exact ⟨rfl, rfl⟩
theorem rCheck_err (a b x y q : Int) (w : World) (h : ¬ (inS a b ∧ 0 ≤ q ∧ q ≤ 12)) :
    Calls Try.prog 39 #[.int .i64 a, .int .i64 b, .int .i64 x, .int .i64 y, .int .i64 q] w fun e w' => e = .returned (.int .i64 1) ∧ Bel w w' := by
  have HE := Lib.hid (errQ_no h)
  clear h
  go_enter Try.func39, Try.ntmps39
  go_wp2_with (go_at_call 60; refine (asked_any _ _ _ _).mono ?_; rintro e w1 ⟨rfl, rfl⟩; rw [HE.out])
  go_ret
  exact ⟨rfl, Bel.refl _⟩
theorem rCheck_zero (a b x y : Int) (w : World) (h : inS a b) :
    Calls Try.prog 39 #[.int .i64 a, .int .i64 b, .int .i64 x, .int .i64 y, .int .i64 0] w fun e w' => e = .returned (.int .i64 1) ∧ Bel w w' := by
  have HE := Lib.hid (errQ_ok (q := 0) h (by omega) (by omega))
  clear h
  go_enter Try.func39, Try.ntmps39
  go_wp2_with (go_at_call 60; refine (asked_any _ _ _ _).mono ?_; rintro e w1 ⟨rfl, rfl⟩; rw [HE.out])
  go_ret
  exact ⟨rfl, Bel.refl _⟩
set_option maxHeartbeats 1000000 in
theorem rCheck_rule (a b x y q : Int) (w : World) (h : inS a b ∧ 0 ≤ q ∧ q ≤ 12) (hq : q ≠ 0) (h2 : ¬ inQ a b x y) :
    Calls Try.prog 39 #[.int .i64 a, .int .i64 b, .int .i64 x, .int .i64 y, .int .i64 q] w fun e w' => e = .returned (.int .i64 8) ∧ Bel w w' := by
  have HE := Lib.hid (errQ_ok h.1 h.2.1 h.2.2)
  have hz : (q == 0) = false := by simpa using hq
  clear h hq
  by_cases hx : 0 ≤ x ∧ x ≤ a
  · have hy : ¬ (0 ≤ y ∧ y ≤ b) := fun k => h2 ⟨hx.1, hx.2, k.1, k.2⟩
    have H1 := Lib.hid hx; have H2 := Lib.hid hy
    clear h2 hx hy
    go_enter Try.func39, Try.ntmps39
    go_wp2_with (go_at_call 60; refine (asked_any _ _ _ _).mono ?_; rintro e w1 ⟨rfl, rfl⟩; rw [HE.out])
    refine (within_yes _ _ _ _ H1.out).mono ?_
    rintro e w1 ⟨rfl, rfl⟩
    go_wp2_with fail
    refine (within_no _ _ _ _ H2.out).mono ?_
    rintro e w1 ⟨rfl, rfl⟩
    go_wp2
    go_ret
    exact ⟨rfl, Bel.refl _⟩
  · have H1 := Lib.hid hx
    clear h2 hx
    go_enter Try.func39, Try.ntmps39
    go_wp2_with (go_at_call 60; refine (asked_any _ _ _ _).mono ?_; rintro e w1 ⟨rfl, rfl⟩; rw [HE.out])
    refine (within_no _ _ _ _ H1.out).mono ?_
    rintro e w1 ⟨rfl, rfl⟩
    go_wp2
    go_ret
    exact ⟨rfl, Bel.refl _⟩
set_option maxRecDepth 100000 in
set_option maxHeartbeats 2000000 in
theorem rCheck_ok (a b x y p : Nat) (w : World) (ha : a ≤ 16) (hb : b ≤ 16) (hx : x ≤ a) (hy : y ≤ b) (hp : p + 1 ≤ 12) :
    Calls Try.prog 39 #[.int .i64 (a : Int), .int .i64 (b : Int), .int .i64 (x : Int), .int .i64 (y : Int), .int .i64 ((p : Int) + 1)] w fun e w' => e = .returned (.int .i64 (if good p a b x y = true then 0 else 7)) ∧ Bel w w' := by
  have HE := Lib.hid (errQ_ok (inS_of ha hb) (show (0 : Int) ≤ (p : Int) + 1 by omega) (by omega))
  have hp12 : (p : Int) + 1 ≤ 12 := by omega
  have hz : ((p : Int) + 1 == 0) = false := by simp; omega
  obtain ⟨c, hc⟩ : ∃ c, c = y + (a - x) := ⟨_, rfl⟩
  obtain ⟨d, hd⟩ : ∃ d, d = a - x := ⟨_, rfl⟩
  obtain ⟨f, hf⟩ : ∃ f, f = b - y + x := ⟨_, rfl⟩
  obtain ⟨n, hn⟩ : ∃ n, n = a + b := ⟨_, rfl⟩
  have hgd : good p a b x y = (en p x c && en p d f) := by unfold good; rw [hc, hd, hf]
  have H1 := Lib.hid (show (0 : Int) ≤ (x : Int) ∧ (x : Int) ≤ (a : Int) from ⟨by omega, by omega⟩)
  have H2 := Lib.hid (show (0 : Int) ≤ (y : Int) ∧ (y : Int) ≤ (b : Int) from ⟨by omega, by omega⟩)
  have HN := Lib.hid (show (a : Int) + (b : Int) = (n : Int) by omega)
  have hn32 : n ≤ 32 := by omega
  have hx33 : (x : Int) < 33 := by omega
  have hc33 : (c : Int) < 33 := by omega
  have hd33 : (d : Int) < 33 := by omega
  have hf33 : (f : Int) < 33 := by omega
  have T1 := Lib.hid (tF_in (n := n) (q := p) (a := x) (b := c) (by omega))
  have T2 := Lib.hid (tF_in (n := n) (q := p) (a := d) (b := f) (by omega))
  have hai : (a : Int) ≤ 16 := by omega
  have hbi : (b : Int) ≤ 16 := by omega
  rw [hgd]
  have HC := Lib.hid hc; have HD := Lib.hid hd; have HF := Lib.hid hf
  clear hc hd hf hgd hn
  obtain ⟨u, hu⟩ : ∃ u, u = en p x c := ⟨_, rfl⟩
  obtain ⟨v, hv⟩ : ∃ v, v = en p d f := ⟨_, rfl⟩
  rw [← hu, ← hv]
  rw [← hu] at T1
  rw [← hv] at T2
  clear hu hv
  go_enter Try.func39, Try.ntmps39
  go_wp2_with (go_at_call 60; refine (asked_any _ _ _ _).mono ?_; rintro e w1 ⟨rfl, rfl⟩; rw [HE.out])
  refine (within_yes _ _ _ _ H1.out).mono ?_
  rintro e w1 ⟨rfl, rfl⟩
  go_wp2_with fail
  refine (within_yes _ _ _ _ H2.out).mono ?_
  rintro e w1 ⟨rfl, rfl⟩
  go_wp2_with fail
  rw [HN.out]
  refine (table_any n p _ hn32 (by omega)).mono ?_
  rintro e w1 ⟨rfl, hb1⟩
  obtain ⟨X, hX⟩ : ∃ X, X = tabL (tF n p) := ⟨_, rfl⟩
  rw [← hX]
  have hsz : X.toArray.size = 1089 := by rw [hX]; simp [tabL]
  have hin2 : (Try.prog.info? 77).map (·.size) = some X.toArray.size := by rw [infoTab, hsz]
  have hone : X.toArray.all (·.oneCell') = true := by rw [hX]; exact all_oneCell_toArray (tabL_one _)
  have t7 := Tab.made w1 _ 77 _ zero_cells
  have hth : (w1.alloc (.cells Try.zeroCells77 77)).there w1.heap.size 0 X.toArray.size := by rw [hsz]; exact t7.there
  have hE : Bel w ((w1.alloc (.cells Try.zeroCells77 77)).setCells w1.heap.size 0 X) ∧ Tab ((w1.alloc (.cells Try.zeroCells77 77)).setCells w1.heap.size 0 X) w1.heap.size (tF n p) := by
    rw [hX]
    exact ⟨(hb1.alloc _).setCells hb1.size 0 _, t7.stored _⟩
  obtain ⟨e1, e2⟩ := hE
  have HI2 := Lib.hid hin2; have HO := Lib.hid hone; have HTH := Lib.hid hth
  have g1 := e2.cells x c (by omega) (by omega)
  have g2 := e2.cells d f (by omega) (by omega)
  rw [T1.out] at g1
  rw [T2.out] at g2
  clear hX hsz hin2 hone t7 hth
  generalize hw2 : (w1.alloc (.cells Try.zeroCells77 77)).setCells w1.heap.size 0 X = w2 at *
  have HW := Lib.hid hw2
  clear hw2
  go_wp2_with (refine wpList_store_mid rfl 77 (.tmp 12) _ rfl w1.heap.size 0 X.toArray rfl rfl HTH.out HI2.out HO.out ?_)
  refine (rafter_nat a b x y x c true _ ha hb hx hy rfl HC.out).mono ?_
  rintro e w3 ⟨rfl, hw3⟩
  have hw3' : (w1.alloc (.cells Try.zeroCells77 77)).setCells w1.heap.size 0 X = w3 := hw3
  rw [HW.out] at hw3'
  subst hw3'
  go_wp2_with fail
  refine (rafter_nat a b x y d f false _ ha hb hx hy HD.out HF.out).mono ?_
  rintro e w4 ⟨rfl, rfl⟩
  cases u
  · go_wp2
    go_ret
    exact ⟨rfl, e1⟩
  · cases v
    · go_wp2
      go_ret
      exact ⟨rfl, e1⟩
    · go_wp2
      go_ret
      exact ⟨rfl, e1⟩
theorem check_cases (a b x y q : Int) : (¬ (inS a b ∧ 0 ≤ q ∧ q ≤ 12)) ∨ (inS a b ∧ q = 0) ∨ ((inS a b ∧ 0 ≤ q ∧ q ≤ 12) ∧ q ≠ 0 ∧ ¬ inQ a b x y) ∨ ∃ a' b' x' y' p : Nat, a = a' ∧ b = b' ∧ x = x' ∧ y = y' ∧ q = (p : Int) + 1 ∧ a' ≤ 16 ∧ b' ≤ 16 ∧ x' ≤ a' ∧ y' ≤ b' ∧ p + 1 ≤ 12 := by
  by_cases h : inS a b ∧ 0 ≤ q ∧ q ≤ 12
  · by_cases hq : q = 0
    · exact .inr (.inl ⟨h.1, hq⟩)
    · by_cases h2 : inQ a b x y
      · obtain ⟨⟨i1, i2, i3, i4⟩, q1, q2⟩ := h
        obtain ⟨x1, x2, y1, y2⟩ := h2
        exact .inr (.inr (.inr ⟨a.toNat, b.toNat, x.toNat, y.toNat, q.toNat - 1, by omega, by omega, by omega, by omega, by omega, by omega, by omega, by omega, by omega, by omega⟩))
      · exact .inr (.inr (.inl ⟨h, hq, h2⟩))
  · exact .inl h
theorem wCheck_any (a b x y q : Int) (w : World) : Calls Try.prog 38 #[.int .i64 a, .int .i64 b, .int .i64 x, .int .i64 y, .int .i64 q] w fun e w' => e = .returned (.int .i64 (chkV a b x y q)) ∧ Bel w w' := by
  rcases check_cases a b x y q with h | ⟨h, rfl⟩ | ⟨h, hq, h2⟩ | ⟨a, b, x, y, p, rfl, rfl, rfl, rfl, rfl, ha, hb, hx, hy, hp⟩
  · rw [chk_err h]; exact wCheck_err a b x y q w h
  · rw [chk_zero]; exact wCheck_zero a b x y w h
  · rw [chk_rule h hq h2]; exact wCheck_rule a b x y q w h hq h2
  · have := chk_ok ha hb hx hy hp
    rw [show ((p : Int) + 1) = ((p + 1 : Nat) : Int) from rfl, this]
    exact wCheck_ok a b x y p w ha hb hx hy hp
theorem rCheck_any (a b x y q : Int) (w : World) : Calls Try.prog 39 #[.int .i64 a, .int .i64 b, .int .i64 x, .int .i64 y, .int .i64 q] w fun e w' => e = .returned (.int .i64 (chkV a b x y q)) ∧ Bel w w' := by
  rcases check_cases a b x y q with h | ⟨h, rfl⟩ | ⟨h, hq, h2⟩ | ⟨a, b, x, y, p, rfl, rfl, rfl, rfl, rfl, ha, hb, hx, hy, hp⟩
  · rw [chk_err h]; exact rCheck_err a b x y q w h
  · rw [chk_zero]; exact rCheck_zero a b x y w h
  · rw [chk_rule h hq h2]; exact rCheck_rule a b x y q w h hq h2
  · have := chk_ok ha hb hx hy hp
    rw [show ((p : Int) + 1) = ((p + 1 : Nat) : Int) from rfl, this]
    exact rCheck_ok a b x y p w ha hb hx hy hp
end Go.Proofs.Ytogeackcnmeooaa
