/-
  The statement WashTwiceSaid: for all lots, times and depths two pots of the same time leave above what two settlings leave, and two pots leave the same in either order; the list stays as it was in its spare cells, too, and the known masses come out. No condition.
-/
import Derived.Test.YtmbhhooiaonhjaaSD
import Derived.Test.YtmbhhooiaonhjaaK
import Derived.Test.YtmbhhooiaonhjaaR
import Derived.Deep.RegionHeld3
namespace Go.Proofs.Ytmbhhooiaonhjaa.washTwice
open Go.ChangeShapes Go.WideShapes Go.ChangeAt Go.RowKit Go.Joins

theorem box2 {w : World} {x y : Int} {ty : TypeId} {w' : World} (h : Bel (w.alloc (.cells #[.int .i64 x, .int .i64 y] ty)) w') : w'.cell? ⟨w.heap.size, 0, none⟩ = some (.int .i64 x) ∧ w'.cell? ⟨w.heap.size, 1, none⟩ = some (.int .i64 y) := by
  refine ⟨?_, ?_⟩ <;> (rw [h.use.1 _ _ (by simp)]; go_simp)
theorem same_self (l : List (Int × Int)) : same l l = true := by simp [same]
theorem ints_lit2 (w : World) (a b : Int) (ty : TypeId) (g : Nat) (hg : g = w.heap.size) : Ints (w.alloc (.cells #[.int .i64 a, .int .i64 b] ty)) (some ⟨g, 0, none⟩) [a, b] := by
  subst hg
  refine .inr ⟨_, 0, rfl, by simp, fun j v hj => ?_⟩
  rw [show 0 + j = j from Nat.zero_add j]
  match j, hj with
  | 0, hj => simp at hj; subst hj; go_simp
  | 1, hj => simp at hj; subst hj; go_simp
theorem potsE_two {gs : List (Int × Int)} {a b d : Int} (he : errV gs = 0) : potsE gs [a, b] d = if (within a 0 100 && within b 0 100 && within d 1 20) = true then 0 else 1 := by
  unfold potsE
  rw [if_pos he, if_neg (by simp)]
  simp [timesB, Bool.and_assoc]
theorem third {gs : List (Int × Int)} {a b d : Int} {base : Nat} {w : World} {v : Value} (h : OwnT base w v (potsL gs [a, b] d)) :
    ∃ q o c A' n' c', v = .slice (some ⟨q, o, none⟩) 3 c ∧ q < w.heap.size ∧ w.cell? ⟨q, o + 2, none⟩ = some (.slice A' n' c') ∧ Prs w A' (restL (aft d (pot gs) [a, b])) ∧ (restL (aft d (pot gs) [a, b])).length = n' ∧ n' ≤ maxLen := by
  obtain ⟨A1, n1, c1, rfl, hn1, hT⟩ := h.form
  obtain ⟨q, o, ns, A', n', c', rfl, hq, hg, hc, hp, hl, hm⟩ := hT.at_ (k := 2) (by rw [potsL_length]; simp)
  obtain rfl : n1 = 3 := by rw [hn1, potsL_length]; rfl
  have : ns = restL (aft d (pot gs) [a, b]) := by
    have h2 : (potsL gs [a, b] d)[2]? = some (restL (aft d (pot gs) [a, b])) := rfl
    rw [h2] at hg
    injection hg with hg
    exact hg.symm
  subst this
  exact ⟨q, o, c1, A', n', c', rfl, hq, hc, hp, hl, hm⟩

set_option maxHeartbeats 2000000 in
theorem inner (A : Option Addr) (n c : Nat) (gs : List (Int × Int)) (t d o : Int) (w : World) (hR : Prs w A gs) (hn : gs.length = n) :
    Calls Try.prog 11 #[.slice A n c, .agg #[.int .i64 t, .int .i64 d], .int .i64 o] w fun e w' => e = .returned (.bool true) ∧ Bel w w' := by
  by_cases h40 : 40 < n
  · have hd : decide (40 < n) = true := by simpa using h40
    go_enter Try.func11, Try.ntmps11
    go_wp2_with (first | (go_at_call 15; refine (long_any _ _ _ _).mono ?_; rintro e w' ⟨rfl, rfl⟩) | (go_at_call 16; refine (known_any _).mono ?_; rintro e w7 ⟨rfl, hb7⟩))
    go_ret
    exact ⟨rfl, by (repeat (first | exact Bel.refl _ | assumption | refine Bel.drew ?_ | refine Bel.drewN ?_ _ | refine Bel.alloc ?_ _ | refine Bel.setCell ?_ (by first | omega | (simp; done) | (simp; omega) | (simp at *; omega)) _ | refine Bel.trans ?_ (by assumption)))⟩
  have hd : decide (40 < n) = false := by simpa using h40
  have hmax : n ≤ maxLen := by unfold maxLen; omega
  by_cases hok : errV gs = 0 ∧ (within t 0 100 && within d 1 20) = true
  · obtain ⟨he, hg⟩ := hok
    simp only [Bool.and_eq_true] at hg
    obtain ⟨g1, g2⟩ := hg
    have hE1 : potsE gs [t, t] d = 0 := by rw [potsE_two he, g1, g2]; rfl
    have hf := fit_of gs he
    have hsw : ∀ u : Int, within u 0 100 = true → restL (aft d (pot gs) [t, u]) = restL (aft d (pot gs) [u, t]) := fun u hu => aft_swap hf (within_iff.1 g2).1 (within_iff.1 g1).1 (within_iff.1 hu).1
    have h2 : potsE gs [t, o] d = (if within o 0 100 = true then 0 else 1) ∧ potsE gs [o, t] d = (if within o 0 100 = true then 0 else 1) := by
      rw [potsE_two he, potsE_two he, g1, g2]
      simp
    have HSW := Lib.hid hsw; have HE1 := Lib.hid hE1; have H2 := Lib.hid h2; have HE := Lib.hid he; have Hn := Lib.hid hn
    clear hsw hE1 h2 hf he hn
    go_enter Try.func11, Try.ntmps11
    go_wp2_with (go_at_call 15; refine (long_any _ _ _ _).mono ?_; rintro e w' ⟨rfl, rfl⟩)
    refine (pots_ok A _ n c 2 2 gs [t, t] d _ (hR.bel (by (repeat (first | exact Bel.refl _ | assumption | refine Bel.drew ?_ | refine Bel.drewN ?_ _ | refine Bel.alloc ?_ _ | refine Bel.setCell ?_ (by first | omega | (simp; done) | (simp; omega) | (simp at *; omega)) _ | refine Bel.trans ?_ (by assumption))))) (ints_lit2 _ _ _ _ _ (by simp)) Hn.out rfl hmax HE1.out).mono ?_
    rintro e w1 ⟨v1, rfl, hO1, hb1⟩
    obtain ⟨q1, o1, c1, A1, n1, d1, rfl, hq1, hc1, hp1, hl1, hm1⟩ := third hO1
    have hbx1 : Bel (w.alloc (.cells #[.int .i64 t, .int .i64 d] 30)) w1 := by (repeat (first | exact Bel.refl _ | assumption | refine Bel.drew ?_ | refine Bel.drewN ?_ _ | refine Bel.alloc ?_ _ | refine Bel.setCell ?_ (by first | omega | (simp; done) | (simp; omega) | (simp at *; omega)) _ | refine Bel.trans ?_ (by assumption)))
    obtain ⟨b1, b2⟩ := box2 hbx1
    have Hl1 := Lib.hid hl1
    clear hl1 hO1
    go_wp2_with fail
    refine (wash_ok A n c gs t d 2 _ (hR.bel (by (repeat (first | exact Bel.refl _ | assumption | refine Bel.drew ?_ | refine Bel.drewN ?_ _ | refine Bel.alloc ?_ _ | refine Bel.setCell ?_ (by first | omega | (simp; done) | (simp; omega) | (simp at *; omega)) _ | refine Bel.trans ?_ (by assumption))))) Hn.out HE.out g1 g2 (by omega) (by omega)).mono ?_
    rintro e w2 ⟨g, rfl, hg, hb2, hr2⟩
    have hc2 : w2.cell? ⟨q1, o1 + 2, none⟩ = some (.slice A1 n1 d1) := by rw [hb2.use.1 _ _ hq1]; exact hc1
    have hnn : Hid (n1 = n) := by show _ = _; rw [← Hl1.out]; simp [restL, aft_length, pot, Hn.out]
    have hq2 : Prs w2 (some ⟨g, 0, none⟩) (restL (aft d (pot gs) [t, t])) := Row.prs (m := n * 2) (by rw [Hl1.out, hnn.out]; exact hr2)
    have hbx2 : Bel (w.alloc (.cells #[.int .i64 t, .int .i64 d] 30)) w2 := hbx1.trans hb2
    clear b1 b2 hc1 hr2
    obtain ⟨b1, b2⟩ := box2 hbx2
    have hp2 := hp1.bel hb2
    go_wp2_with fail
    refine (sameRats_any A1 _ n1 d1 n n _ _ _ hp2 hq2 Hl1.out (by rw [Hl1.out]; exact hnn.out) hm1 hmax).mono ?_
    rintro e w3 ⟨rfl, hb3⟩
    rw [same_self]
    have hbx3 : Bel (w.alloc (.cells #[.int .i64 t, .int .i64 d] 30)) w3 := hbx2.trans hb3
    clear b1 b2 hc2 hp2 hq2
    obtain ⟨b1, b2⟩ := box2 hbx3
    obtain ⟨b3, b4⟩ := box2 (hbx3.alloc (.cells #[.int .i64 t, .int .i64 o] 3))
    cases ho : within o 0 100
    · obtain ⟨x, hx1, hx2, hx0⟩ : ∃ x, potsE gs [t, o] d = x ∧ potsE gs [o, t] d = x ∧ x ≠ 0 := by
        have := H2.out
        rw [ho] at this
        exact ⟨1, this.1, this.2, by decide⟩
      have e1 := Lib.hid hx1; have e2 := Lib.hid hx2
      have hne : (x != 0) = true := by simpa using hx0
      have HX0 := Lib.hid hx0
      clear hx1 hx2 hx0
      go_wp2_with fail
      refine (pots_err A _ n c 2 2 gs [t, o] d _ (hR.bel (by (repeat (first | exact Bel.refl _ | assumption | refine Bel.drew ?_ | refine Bel.drewN ?_ _ | refine Bel.alloc ?_ _ | refine Bel.setCell ?_ (by first | omega | (simp; done) | (simp; omega) | (simp at *; omega)) _ | refine Bel.trans ?_ (by assumption))))) (ints_lit2 _ _ _ _ _ (by simp)) Hn.out rfl hmax (by decide) (by rw [e1.out]; exact HX0.out)).mono ?_
      rintro e w4 ⟨rfl, hb4⟩
      rw [e1.out]
      have hbx4 : Bel (w.alloc (.cells #[.int .i64 t, .int .i64 d] 30)) w4 := by (repeat (first | exact Bel.refl _ | assumption | refine Bel.drew ?_ | refine Bel.drewN ?_ _ | refine Bel.alloc ?_ _ | refine Bel.setCell ?_ (by first | omega | (simp; done) | (simp; omega) | (simp at *; omega)) _ | refine Bel.trans ?_ (by assumption)))
      clear b1 b2 b3 b4
      obtain ⟨b1, b2⟩ := box2 hbx4
      obtain ⟨b3, b4⟩ := box2 (hbx4.alloc (.cells #[.int .i64 o, .int .i64 t] 3))
      go_wp2_with fail
      refine (pots_err A _ n c 2 2 gs [o, t] d _ (hR.bel (by (repeat (first | exact Bel.refl _ | assumption | refine Bel.drew ?_ | refine Bel.drewN ?_ _ | refine Bel.alloc ?_ _ | refine Bel.setCell ?_ (by first | omega | (simp; done) | (simp; omega) | (simp at *; omega)) _ | refine Bel.trans ?_ (by assumption))))) (ints_lit2 _ _ _ _ _ (by simp)) Hn.out rfl hmax (by decide) (by rw [e2.out]; exact HX0.out)).mono ?_
      rintro e w5 ⟨rfl, hb5⟩
      rw [e2.out]
      go_wp2
      refine wp_region_any (by kernel_rfl) ?_
      change wpAny _ _ _ _ _ _ _ (World.drew _)
      refine wpAny_take (i := 0) (oi := ⟨some 81, _, _, _, _, _⟩) (v := .int .i64 x) rfl (by kernel_rfl) (by kernel_rfl) (by kernel_rfl) (fun _ _ _ h => h) (Or.inl ⟨by rfl, fun w => by go_simp⟩) ?_
      simp only [Act.put]
      refine wpAny_take (i := 1) (oi := ⟨some 82, _, _, _, _, _⟩) (v := .bool true) rfl (by kernel_rfl) (by kernel_rfl) (by kernel_rfl) (fun _ _ _ h => h) (Or.inl ⟨by rfl, fun w => by go_simp; try simp [hne]⟩) ?_
      simp only [Act.put]
      refine wpAny_take (i := 2) (oi := ⟨some 83, _, _, _, _, _⟩) (v := .bool true) rfl (by kernel_rfl) (by kernel_rfl) (by kernel_rfl) (fun _ _ _ h => h) (Or.inl ⟨by rfl, fun w => by go_simp⟩) ?_
      simp only [Act.put]
      refine wpAny_take (i := 3) (oi := ⟨some 84, _, _, _, _, _⟩) (v := undef) rfl (by kernel_rfl) (by kernel_rfl) (by kernel_rfl) (fun _ _ _ h => h) (Or.inr ⟨by first | (with_reducible rfl) | (simp [Region.wanted, yielded, undef]; done), rfl⟩) ?_
      simp only [Act.put]
      refine wpAny_take (i := 4) (oi := ⟨some 85, _, _, _, _, _⟩) (v := undef) rfl (by kernel_rfl) (by kernel_rfl) (by kernel_rfl) (fun _ _ _ h => h) (Or.inr ⟨by first | (with_reducible rfl) | (simp [Region.wanted, yielded, undef]; done), rfl⟩) ?_
      simp only [Act.put]
      refine wpAny_take (i := 5) (oi := ⟨some 86, _, _, _, _, _⟩) (v := undef) rfl (by kernel_rfl) (by kernel_rfl) (by kernel_rfl) (fun _ _ _ h => h) (Or.inr ⟨by first | (with_reducible rfl) | (simp [Region.wanted, yielded, undef]; done), rfl⟩) ?_
      simp only [Act.put]
      refine wpAny_take (i := 6) (oi := ⟨some 87, _, _, _, _, _⟩) (v := undef) rfl (by kernel_rfl) (by kernel_rfl) (by kernel_rfl) (fun _ _ _ h => h) (Or.inr ⟨by first | (with_reducible rfl) | (simp [Region.wanted, yielded, undef]; done), rfl⟩) ?_
      simp only [Act.put]
      refine wpAny_take (i := 7) (oi := ⟨some 88, _, _, _, _, _⟩) (v := undef) rfl (by kernel_rfl) (by kernel_rfl) (by kernel_rfl) (fun _ _ _ h => h) (Or.inr ⟨by first | (with_reducible rfl) | (simp [Region.wanted, yielded, undef]; done), rfl⟩) ?_
      simp only [Act.put]
      refine wpAny_take (i := 8) (oi := ⟨some 89, _, _, _, _, _⟩) (v := undef) rfl (by kernel_rfl) (by kernel_rfl) (by kernel_rfl) (fun _ _ _ h => h) (Or.inr ⟨by first | (with_reducible rfl) | (simp [Region.wanted, yielded, undef]; done), rfl⟩) ?_
      simp only [Act.put]
      refine wpAny_take (i := 9) (oi := ⟨some 90, _, _, _, _, _⟩) (v := undef) rfl (by kernel_rfl) (by kernel_rfl) (by kernel_rfl) (fun _ _ _ h => h) (Or.inr ⟨by first | (with_reducible rfl) | (simp [Region.wanted, yielded, undef]; done), rfl⟩) ?_
      simp only [Act.put]
      refine wpAny_take (i := 10) (oi := ⟨some 91, _, _, _, _, _⟩) (v := undef) rfl (by kernel_rfl) (by kernel_rfl) (by kernel_rfl) (fun _ _ _ h => h) (Or.inr ⟨by first | (with_reducible rfl) | (simp [Region.wanted, yielded, undef]; done), rfl⟩) ?_
      simp only [Act.put]
      refine wpAny_take (i := 11) (oi := ⟨some 92, _, _, _, _, _⟩) (v := undef) rfl (by kernel_rfl) (by kernel_rfl) (by kernel_rfl) (fun _ _ _ h => h) (Or.inr ⟨by first | (with_reducible rfl) | (simp [Region.wanted, yielded, undef]; done), rfl⟩) ?_
      simp only [Act.put]
      refine wpAny_take (i := 12) (oi := ⟨some 93, _, _, _, _, _⟩) (v := undef) rfl (by kernel_rfl) (by kernel_rfl) (by kernel_rfl) (fun _ _ _ h => h) (Or.inr ⟨by first | (with_reducible rfl) | (simp [Region.wanted, yielded, undef]; done), rfl⟩) ?_
      simp only [Act.put]
      refine wpAny_take (i := 13) (oi := ⟨some 94, _, _, _, _, _⟩) (v := undef) rfl (by kernel_rfl) (by kernel_rfl) (by kernel_rfl) (fun _ _ _ h => h) (Or.inr ⟨by first | (with_reducible rfl) | (simp [Region.wanted, yielded, undef]; done), rfl⟩) ?_
      simp only [Act.put]
      refine wpAny_take (i := 14) (oi := ⟨some 95, _, _, _, _, _⟩) (v := undef) rfl (by kernel_rfl) (by kernel_rfl) (by kernel_rfl) (fun _ _ _ h => h) (Or.inr ⟨by first | (with_reducible rfl) | (simp [Region.wanted, yielded, undef]; done), rfl⟩) ?_
      simp only [Act.put]
      refine wpAny_take (i := 15) (oi := ⟨some 96, _, _, _, _, _⟩) (v := undef) rfl (by kernel_rfl) (by kernel_rfl) (by kernel_rfl) (fun _ _ _ h => h) (Or.inr ⟨by first | (with_reducible rfl) | (simp [Region.wanted, yielded, undef]; done), rfl⟩) ?_
      simp only [Act.put]
      refine wpAny_take (i := 16) (oi := ⟨some 97, _, _, _, _, _⟩) (v := undef) rfl (by kernel_rfl) (by kernel_rfl) (by kernel_rfl) (fun _ _ _ h => h) (Or.inr ⟨by first | (with_reducible rfl) | (simp [Region.wanted, yielded, undef]; done), rfl⟩) ?_
      simp only [Act.put]
      refine wpAny_take (i := 17) (oi := ⟨some 98, _, _, _, _, _⟩) (v := undef) rfl (by kernel_rfl) (by kernel_rfl) (by kernel_rfl) (fun _ _ _ h => h) (Or.inr ⟨by first | (with_reducible rfl) | (simp [Region.wanted, yielded, undef]; done), rfl⟩) ?_
      simp only [Act.put]
      refine wpAny_take (i := 18) (oi := ⟨some 99, _, _, _, _, _⟩) (v := undef) rfl (by kernel_rfl) (by kernel_rfl) (by kernel_rfl) (fun _ _ _ h => h) (Or.inr ⟨by first | (with_reducible rfl) | (simp [Region.wanted, yielded, undef]; done), rfl⟩) ?_
      simp only [Act.put]
      refine wpAny_take (i := 19) (oi := ⟨some 100, _, _, _, _, _⟩) (v := undef) rfl (by kernel_rfl) (by kernel_rfl) (by kernel_rfl) (fun _ _ _ h => h) (Or.inr ⟨by first | (with_reducible rfl) | (simp [Region.wanted, yielded, undef]; done), rfl⟩) ?_
      simp only [Act.put]
      refine wpAny_take (i := 20) (oi := ⟨some 101, _, _, _, _, _⟩) (v := .bool true) rfl (by kernel_rfl) (by kernel_rfl) (by kernel_rfl) (fun _ _ _ h => h) (Or.inl ⟨by rfl, fun w => by go_simp⟩) ?_
      simp only [Act.put]
      refine wpAny_take (i := 21) (oi := ⟨some 102, _, _, _, _, _⟩) (v := .bool true) rfl (by kernel_rfl) (by kernel_rfl) (by kernel_rfl) (fun _ _ _ h => h) (Or.inl ⟨by rfl, fun w => by go_simp⟩) ?_
      simp only [Act.put]
      refine wpAny_ready (rs := [22]) (by kernel_rfl) (by simp) ?_
      refine AllReady.cons rfl (fun K hK => ?_) AllReady.nil
      go_simp
      go_wp2_with (go_at_call 16; refine (known_any _).mono ?_; rintro e w7 ⟨rfl, hb7⟩)
      refine wpAny_take (i := 23) (oi := ⟨some 104, _, _, _, _, _⟩) (v := .bool true) rfl (by kernel_rfl) (by kernel_rfl) (by kernel_rfl) (fun _ _ _ h => h) (Or.inl ⟨by rfl, fun w => by go_simp⟩) ?_
      simp only [Act.put]
      refine wpAny_take (i := 24) (oi := ⟨some 6, _, _, _, _, _⟩) (v := .bool true) rfl (by kernel_rfl) (by kernel_rfl) (by kernel_rfl) (fun _ _ _ h => h) (Or.inl ⟨by rfl, fun w => by go_simp⟩) ?_
      simp only [Act.put]
      refine wpAny_done (by kernel_rfl) ?_ _
      go_wp2
      go_ret
      refine ⟨?_, by (repeat (first | exact Bel.refl _ | assumption | refine Bel.drew ?_ | refine Bel.drewN ?_ _ | refine Bel.alloc ?_ _ | refine Bel.setCell ?_ (by first | omega | (simp; done) | (simp; omega) | (simp at *; omega)) _ | refine Bel.trans ?_ (by assumption)))⟩
      rfl
    · have e1 : Hid (potsE gs [t, o] d = 0) := by have := H2.out.1; rw [ho] at this; exact this
      have e2 : Hid (potsE gs [o, t] d = 0) := by have := H2.out.2; rw [ho] at this; exact this
      go_wp2_with fail
      refine (pots_ok A _ n c 2 2 gs [t, o] d _ (hR.bel (by (repeat (first | exact Bel.refl _ | assumption | refine Bel.drew ?_ | refine Bel.drewN ?_ _ | refine Bel.alloc ?_ _ | refine Bel.setCell ?_ (by first | omega | (simp; done) | (simp; omega) | (simp at *; omega)) _ | refine Bel.trans ?_ (by assumption))))) (ints_lit2 _ _ _ _ _ (by simp)) Hn.out rfl hmax e1.out).mono ?_
      rintro e w4 ⟨v4, rfl, hO4, hb4⟩
      obtain ⟨q4, o4, c4, A4, n4, d4, rfl, hq4, hc4, hp4, hl4, hm4⟩ := third hO4
      have hbx4 : Bel (w.alloc (.cells #[.int .i64 t, .int .i64 d] 30)) w4 := by (repeat (first | exact Bel.refl _ | assumption | refine Bel.drew ?_ | refine Bel.drewN ?_ _ | refine Bel.alloc ?_ _ | refine Bel.setCell ?_ (by first | omega | (simp; done) | (simp; omega) | (simp at *; omega)) _ | refine Bel.trans ?_ (by assumption)))
      have Hl4 := Lib.hid hl4
      clear hl4 hO4 b1 b2 b3 b4
      obtain ⟨b1, b2⟩ := box2 hbx4
      obtain ⟨b3, b4⟩ := box2 (hbx4.alloc (.cells #[.int .i64 o, .int .i64 t] 3))
      go_wp2_with fail
      refine (pots_ok A _ n c 2 2 gs [o, t] d _ (hR.bel (by (repeat (first | exact Bel.refl _ | assumption | refine Bel.drew ?_ | refine Bel.drewN ?_ _ | refine Bel.alloc ?_ _ | refine Bel.setCell ?_ (by first | omega | (simp; done) | (simp; omega) | (simp at *; omega)) _ | refine Bel.trans ?_ (by assumption))))) (ints_lit2 _ _ _ _ _ (by simp)) Hn.out rfl hmax e2.out).mono ?_
      rintro e w5 ⟨v5, rfl, hO5, hb5⟩
      obtain ⟨q5, o5, c5, A5, n5, d5, rfl, hq5, hc5, hp5, hl5, hm5⟩ := third hO5
      have hb45 : Bel w4 w5 := by (repeat (first | exact Bel.refl _ | assumption | refine Bel.drew ?_ | refine Bel.drewN ?_ _ | refine Bel.alloc ?_ _ | refine Bel.setCell ?_ (by first | omega | (simp; done) | (simp; omega) | (simp at *; omega)) _ | refine Bel.trans ?_ (by assumption)))
      have hc45 : w5.cell? ⟨q4, o4 + 2, none⟩ = some (.slice A4 n4 d4) := by rw [hb45.use.1 _ _ hq4]; exact hc4
      have hp45 := hp4.bel hb45
      rw [← HSW.out o ho] at hp5 hl5
      have Hl5 := Lib.hid hl5
      have held : ∀ w', Bel w5 w' → w'.cell? ⟨q4, o4 + 2, none⟩ = some (.slice A4 n4 d4) ∧ w'.cell? ⟨q5, o5 + 2, none⟩ = some (.slice A5 n5 d5) := fun w' h => ⟨by rw [(hb45.trans h).use.1 _ _ hq4]; exact hc4, by rw [h.use.1 _ _ hq5]; exact hc5⟩
      have Held := Lib.hid held
      clear hc4 hl5 hO5 b1 b2 b3 b4 held
      go_wp2
      go_region_held3 (fun w' => Bel w5 w' ∧ w'.cell? ⟨q4, o4 + 2, none⟩ = some (.slice A4 n4 d4) ∧ w'.cell? ⟨q5, o5 + 2, none⟩ = some (.slice A5 n5 d5)) (exact ⟨by (repeat (first | exact Bel.refl _ | assumption | refine Bel.drew ?_ | refine Bel.drewN ?_ _ | refine Bel.alloc ?_ _ | refine Bel.setCell ?_ (by first | omega | (simp; done) | (simp; omega) | (simp at *; omega)) _ | refine Bel.trans ?_ (by assumption))), Held.out _ (by (repeat (first | exact Bel.refl _ | assumption | refine Bel.drew ?_ | refine Bel.drewN ?_ _ | refine Bel.alloc ?_ _ | refine Bel.setCell ?_ (by first | omega | (simp; done) | (simp; omega) | (simp at *; omega)) _ | refine Bel.trans ?_ (by assumption))))⟩) (first | (go_at_call 24; refine (sameRats_any A4 A5 n4 d4 n5 d5 _ _ _ (hp45.bel (by (repeat (first | exact Bel.refl _ | assumption | refine Bel.drew ?_ | refine Bel.drewN ?_ _ | refine Bel.alloc ?_ _ | refine Bel.setCell ?_ (by first | omega | (simp; done) | (simp; omega) | (simp at *; omega)) _ | refine Bel.trans ?_ (by assumption))))) (hp5.bel (by (repeat (first | exact Bel.refl _ | assumption | refine Bel.drew ?_ | refine Bel.drewN ?_ _ | refine Bel.alloc ?_ _ | refine Bel.setCell ?_ (by first | omega | (simp; done) | (simp; omega) | (simp at *; omega)) _ | refine Bel.trans ?_ (by assumption))))) Hl4.out Hl5.out hm4 hm5).mono ?_; rintro e w6 ⟨rfl, hb6⟩; rw [same_self]) | (go_at_call 16; refine (known_any _).mono ?_; rintro e w7 ⟨rfl, hb7⟩))
      all_goals
        go_wp2
        go_ret
        exact ⟨rfl, by (repeat (first | exact Bel.refl _ | assumption | refine Bel.drew ?_ | refine Bel.drewN ?_ _ | refine Bel.alloc ?_ _ | refine Bel.setCell ?_ (by first | omega | (simp; done) | (simp; omega) | (simp at *; omega)) _ | refine Bel.trans ?_ (by assumption)))⟩
  · obtain ⟨x, hx, hx0⟩ : ∃ x, ((errV gs = x ∧ x ≠ 0) ∨ (errV gs = 0 ∧ (within t 0 100 && within d 1 20 && within ((2 : Nat) : Int) 1 4) = false ∧ x = 1)) ∧ x ≠ 0 := by
      by_cases he : errV gs = 0
      · refine ⟨1, .inr ⟨he, ?_, rfl⟩, by omega⟩
        cases hw : (within t 0 100 && within d 1 20)
        · rfl
        · exact absurd ⟨he, hw⟩ hok
      · exact ⟨_, .inl ⟨rfl, he⟩, he⟩
    have hE : Hid (potsE gs [t, t] d = x) := by
      show _ = _
      rcases hx with ⟨h1, h2⟩ | ⟨h1, h2, rfl⟩
      · unfold potsE
        rw [if_neg (by rw [h1]; exact h2), h1]
      · rw [potsE_two h1]
        rw [show (within t 0 100 && within t 0 100 && within d 1 20) = (within t 0 100 && within d 1 20) from by rw [Bool.and_self]]
        rw [show within ((2 : Nat) : Int) 1 4 = true from by decide, Bool.and_true] at h2
        rw [h2]
        rfl
    have HX := Lib.hid hx; clear hx hok
    have hne : (x != 0) = true := by simpa using hx0
    go_enter Try.func11, Try.ntmps11
    go_wp2_with (go_at_call 15; refine (long_any _ _ _ _).mono ?_; rintro e w' ⟨rfl, rfl⟩)
    refine (pots_err A _ n c 2 2 gs [t, t] d _ (hR.bel (by (repeat (first | exact Bel.refl _ | assumption | refine Bel.drew ?_ | refine Bel.drewN ?_ _ | refine Bel.alloc ?_ _ | refine Bel.setCell ?_ (by first | omega | (simp; done) | (simp; omega) | (simp at *; omega)) _ | refine Bel.trans ?_ (by assumption))))) (ints_lit2 _ _ _ _ _ (by simp)) hn rfl hmax (by decide) (by rw [hE.out]; exact hx0)).mono ?_
    rintro e w1 ⟨rfl, hb1⟩
    rw [hE.out]
    have hbx1 : Bel (w.alloc (.cells #[.int .i64 t, .int .i64 d] 30)) w1 := by (repeat (first | exact Bel.refl _ | assumption | refine Bel.drew ?_ | refine Bel.drewN ?_ _ | refine Bel.alloc ?_ _ | refine Bel.setCell ?_ (by first | omega | (simp; done) | (simp; omega) | (simp at *; omega)) _ | refine Bel.trans ?_ (by assumption)))
    obtain ⟨b1, b2⟩ := box2 hbx1
    go_wp2_with fail
    refine (wash_err A n c gs t d 2 _ (hR.bel (by (repeat (first | exact Bel.refl _ | assumption | refine Bel.drew ?_ | refine Bel.drewN ?_ _ | refine Bel.alloc ?_ _ | refine Bel.setCell ?_ (by first | omega | (simp; done) | (simp; omega) | (simp at *; omega)) _ | refine Bel.trans ?_ (by assumption))))) hn hmax x HX.out).mono ?_
    rintro e w2 ⟨rfl, hb2⟩
    go_wp2_with (go_at_call 16; refine (known_any _).mono ?_; rintro e w7 ⟨rfl, hb7⟩)
    go_ret
    exact ⟨rfl, by (repeat (first | exact Bel.refl _ | assumption | refine Bel.drew ?_ | refine Bel.drewN ?_ _ | refine Bel.alloc ?_ _ | refine Bel.setCell ?_ (by first | omega | (simp; done) | (simp; omega) | (simp at *; omega)) _ | refine Bel.trans ?_ (by assumption)))⟩

set_option maxHeartbeats 400000 in
theorem walk (A : Option Addr) (n c : Nat) (zs : List (Int × Int)) (t d T : Int) (w : World) (a : Arg2 w A n c zs) :
    Calls Try.prog 4 #[.slice A n c, .agg #[.int .i64 t, .int .i64 d], .int .i64 T] w fun e w' => e = .returned (.bool true) ∧ Bel w w' := by
  obtain ⟨e1, e2, e3⟩ := a.els
  have hcm := (reachN_le a.reach (by omega)).2
  go_enter Try.func4, Try.ntmps4
  go_wp2_with fail
  refine (keepGrains_any A n c zs _ (a.prs.bel (by (repeat (first | exact Bel.refl _ | assumption | refine Bel.drew ?_ | refine Bel.drewN ?_ _ | refine Bel.alloc ?_ _ | refine Bel.setCell ?_ (by first | omega | (simp; done) | (simp; omega) | (simp at *; omega)) _ | refine Bel.trans ?_ (by assumption))))) a.len a.le a.nil a.reach).mono ?_
  rintro e w1 ⟨A', n', c', rfl, hn', hb1, hr1⟩
  have HN := Lib.hid hn'; clear hn'
  have hb01 : Bel w w1 := by (repeat (first | exact Bel.refl _ | assumption | refine Bel.drew ?_ | refine Bel.drewN ?_ _ | refine Bel.alloc ?_ _ | refine Bel.setCell ?_ (by first | omega | (simp; done) | (simp; omega) | (simp at *; omega)) _ | refine Bel.trans ?_ (by assumption)))
  have hbox : Bel (w.alloc (.cells #[.int .i64 t, .int .i64 d] 30)) w1 := by (repeat (first | exact Bel.refl _ | assumption | refine Bel.drew ?_ | refine Bel.drewN ?_ _ | refine Bel.alloc ?_ _ | refine Bel.setCell ?_ (by first | omega | (simp; done) | (simp; omega) | (simp at *; omega)) _ | refine Bel.trans ?_ (by assumption)))
  obtain ⟨b1, b2⟩ := box2 hbox
  go_wp2_with fail
  refine (inner A n c _ t d T _ (e1.bel hb01) e2 ).mono ?_
  rintro e w2 ⟨rfl, hb2⟩
  have hb12 : Bel w1 w2 := by (repeat (first | exact Bel.refl _ | assumption | refine Bel.drew ?_ | refine Bel.drewN ?_ _ | refine Bel.alloc ?_ _ | refine Bel.setCell ?_ (by first | omega | (simp; done) | (simp; omega) | (simp at *; omega)) _ | refine Bel.trans ?_ (by assumption)))
  go_wp2_with fail
  refine (keptGrains_any A' A n' c' n c zs _ (hr1.bel hb12) (a.prs.bel (hb01.trans hb12)) HN.out.symm a.len a.le a.nil (reachN_le a.reach (by omega)).1).mono ?_
  rintro e w3 ⟨rfl, hb3⟩
  go_wp2
  go_ret
  exact ⟨rfl, (hb01.trans hb12).trans hb3⟩

set_option maxRecDepth 100000 in
theorem lifted (os : Os) (started : os.Started) (H : Type) (enc : TypeId × Value → H) :
    ReturnsInHanded {} Try.checked os 4 .any (Rows.washTwiceSpec.pre6 enc Try.prog Try.f4 Rows.washTwiceRow.domain false) (Rows.washTwiceSpec.post enc Try.prog Try.f4 false true false false) := by
  refine returnsInHanded_of_change_sized (C := Try.checked) own started (by kernel_rfl) Try.func4
    (ChangeSpec.witness6 (enc := enc) (C := Try.checked) false ⟨#[], #[.slice none 0 0, .agg #[.int .i64 0, .int .i64 0], .int .i64 0], []⟩ 8 (by kernel_rfl) (by kernel_rfl) (by kernel_rfl) (by kernel_rfl)) ?_
  intro W base args ds gs before hval0 hW hcnd hsz0 _
  have hval : ∀ (j : Nat) t v, Try.f4.params[j]? = some t → args[j]? = some v → Value.okWide Try.prog W .any base t v := hval0
  have hsz : (DataW.weightsEach Try.prog (Try.f4.params.toList ++ Rows.washTwiceSpec.plain.varTypes Try.prog) (ds ++ gs)).all (· ≤ reachBytes) = true := hsz0
  have hW' := hW
  obtain ⟨p, q, hA0, hV, rfl, hfz, hnd⟩ := hW
  have hA : DataW.TrodAll enc Try.prog W 0 (fun _ => true) true Try.f4.params.toList args.toList ds p := hA0
  rw [Try.params4] at hA hval hsz
  obtain ⟨v0, vs0, d0, ds0, p0, q0, hargs, rfl, rfl, h0, r0⟩ := trodAll_cons hA
  obtain ⟨v1, vs1, d1, ds1, p1, q1, rfl, rfl, rfl, h1, r1⟩ := trodAll_cons r0
  obtain ⟨v2, vs2, d2, ds2, p2, q2, rfl, rfl, rfl, h2, r2⟩ := trodAll_cons r1
  obtain ⟨rfl, rfl, rfl⟩ := trodAll_nil r2
  obtain rfl : args = #[v0, v1, v2] := by cases args; simp_all
  obtain ⟨rfl, rfl⟩ := trodVars_none hV
  have k0 := h0
  have lt0 : ∀ x ∈ p0, x.block < W.heap.size := by obtain ⟨m, hm⟩ := k0; exact DataW.trod_lt m _ _ _ hm
  have k1 := h1
  have lt1 : ∀ x ∈ p1, x.block < W.heap.size := by obtain ⟨m, hm⟩ := k1; exact DataW.trod_lt m _ _ _ hm
  have k2 := h2
  have lt2 : ∀ x ∈ p2, x.block < W.heap.size := by obtain ⟨m, hm⟩ := k2; exact DataW.trod_lt m _ _ _ hm
  have hr0 : ∀ es sp, d0 = .slice es sp → (es.length + sp.length) * 16 ≤ reachN := by
    intro es sp hd
    have := sized_slice (elems := es) (spare := sp) hsz (j := 0) (t := 22) (e := 52) rfl (by rw [hd]; rfl) Try.underlying22
    rw [bytesGrain] at this
    exact this
  obtain ⟨A0, n0, c0, zs0, rfl, a0⟩ := open_arg2 (hval 0 22 v0 rfl rfl) h0 hr0
  obtain ⟨x1, y1, rfl⟩ : ∃ x y : Int, v1 = .agg #[.int .i64 x, .int .i64 y] := by
    obtain ⟨c0, c1, y0, y1, m, rfl, -, -, hy0, hy1⟩ := open_agg2 Try.underlying30 (by kernel_rfl) cellsPot (hval 1 30 v1 rfl rfl) h1
    obtain ⟨a, e0, -, -⟩ := DataW.trod_int Try.underlying3 hy0
    obtain ⟨b, e1, -, -⟩ := DataW.trod_int Try.underlying3 hy1
    simp at e0 e1
    subst e0 e1
    exact ⟨a, b, rfl⟩
  obtain ⟨x2, rfl, rfl, rfl, w2⟩ := open_int Try.underlying3 (hval 2 3 v2 rfl rfl) h2
  clear hA0 hval0
  refine (walk A0 n0 c0 zs0 x1 y1 x2 W a0).mono fun e W' ⟨he, bel⟩ => ?_
  subst he
  exact ⟨_, rfl, _, _, _, [], _, [], hW', trodAll_mk1 (shut_bool Try.underlying4 _), trodAll_cons_mk (Below.trod laidOut (by kernel_rfl) (of_decide_eq_true (by kernel_rfl)) k0 bel lt0) (trodAll_cons_mk (Below.trod laidOut (by kernel_rfl) (of_decide_eq_true (by kernel_rfl)) k1 bel lt1) (trodAll_cons_mk (shut_int Try.underlying3 w2) (trodAll_mk0))), rfl, Below.frame bel _, fun h => by cases h⟩

theorem over : Rows.washTwiceRow.holds Try.pinned (OpenSpec.ofChange Rows.washTwiceSpec) :=
  OpenClaim.holds_of_wide 4 Try.f4 rfl rfl rfl rfl rfl rfl rfl ⟨rfl, rfl, rfl, rfl, rfl⟩ rfl rfl rfl rfl rfl (by kernel_rfl) Try.func4 (by kernel_rfl)
    (of_decide_eq_true (by kernel_rfl)) (by unfold Func.isWrapper; rw [if_neg (of_decide_eq_false (by kernel_rfl))]; exact ⟨rfl, rfl⟩)
    (fun os started H enc _ => lifted os started H enc)

/-- The statement. -/
theorem proved : Rows.WashTwiceSaid := over
end Go.Proofs.Ytmbhhooiaonhjaa.washTwice
