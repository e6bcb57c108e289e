/-
  The statement WashGrindsSaid: for all lots and moves Grind answers as the document says, what is ground is finer, the lists stay as they were in their spare cells, too, and the known masses come out. No condition.
-/
import Derived.Test.YtnlcndhbamcpdaaMD
import Derived.Test.YtnlcndhbamcpdaaME
import Derived.Test.YtnlcndhbamcpdaaY2
namespace Go.Proofs.Ytnlcndhbamcpdaa.washGrinds
open Go.ChangeShapes Go.WideShapes Go.ChangeAt Go.RowKit Go.Joins

theorem same_self (l : List (Int × Int)) : same l l = true := by simp [same]
theorem own_form3 {e base : Nat} {w : World} {v : Value} {l : List (Int × Int)} (h : Own2 e base w v l) : ∃ A n c, v = .slice A n c ∧ n = l.length ∧ n ≤ c ∧ c ≤ maxLen ∧ (c = n ∨ ∃ b o, A = some ⟨b, o, none⟩) := by
  rcases h.2 with ⟨rfl, h0⟩ | ⟨g, cap, cur, rfl, _, _, h1, h2, _⟩
  · exact ⟨_, _, _, rfl, h0.symm, Nat.le_refl _, by decide, .inl rfl⟩
  · exact ⟨_, _, _, rfl, rfl, h1, h2, .inr ⟨_, _, rfl⟩⟩
theorem own_of {e base n : Nat} {w : World} {v : Value} {l : List (Int × Int)} (h : w.ownsRow base e 2 v (0 + n) ([] ++ cel2 l)) (hn : l.length = n) : Own2 e base w v l := by
  unfold Own2
  rw [hn]
  simpa using h
/-- Grind's error. -/
def grindE (gs : List (Int × Int)) (ms : List (Int × Int × Int)) : Int :=
  if errV gs = 0 then if movV ms = 0 then match grindF (massF gs) ms with | none => 9 | some G => errV (lotF G) else movV ms else errV gs
theorem grindE_zero {gs : List (Int × Int)} {ms : List (Int × Int × Int)} (h : grindE gs ms = 0) : errV gs = 0 ∧ movV ms = 0 ∧ ∃ G, grindF (massF gs) ms = some G ∧ errV (lotF G) = 0 := by
  unfold grindE at h
  split at h
  · rename_i a
    split at h
    · rename_i b
      cases c : grindF (massF gs) ms with
      | none => rw [c] at h; exact absurd h (by decide)
      | some G => rw [c] at h; exact ⟨a, b, G, rfl, h⟩
    · exact absurd h (by assumption)
  · exact absurd h (by assumption)
theorem GrindAns.err {w w' : World} {gs : List (Int × Int)} {ms : List (Int × Int × Int)} {e : Ending} (h : GrindAns w gs ms e w') (hx : grindE gs ms ≠ 0) : e = .returned (.tuple #[.slice none 0 0, .int .i64 (grindE gs ms)]) ∧ Bel w w' := by
  rcases h with ⟨a, b, c⟩ | ⟨a, b, c, d⟩ | ⟨a, b, c, d, f⟩ | ⟨a, b, G, c, h | h⟩
  · have e1 : grindE gs ms = errV gs := by unfold grindE; rw [if_neg a]
    rw [e1]; exact ⟨b, c⟩
  · have e1 : grindE gs ms = movV ms := by unfold grindE; rw [if_pos a, if_neg b]
    rw [e1]; exact ⟨c, d⟩
  · have e1 : grindE gs ms = 9 := by unfold grindE; rw [if_pos a, if_pos b, c]
    rw [e1]; exact ⟨d, f⟩
  · have e1 : grindE gs ms = errV (lotF G) := by unfold grindE; rw [if_pos a, if_pos b, c]
    exact absurd (e1.trans h.1) hx
  · have e1 : grindE gs ms = errV (lotF G) := by unfold grindE; rw [if_pos a, if_pos b, c]
    rw [e1]; exact h.2
theorem GrindAns.ok {w w' : World} {gs : List (Int × Int)} {ms : List (Int × Int × Int)} {e : Ending} (h : GrindAns w gs ms e w') {G : Nat → Int} (h1 : errV gs = 0) (h2 : movV ms = 0) (hG : grindF (massF gs) ms = some G) (h3 : errV (lotF G) = 0) : OneLot w (lotF G) e w' := by
  rcases h with ⟨a, b, c⟩ | ⟨a, b, c, d⟩ | ⟨a, b, c, d, f⟩ | ⟨a, b, G', c, h | h⟩
  · exact absurd h1 a
  · exact absurd h2 b
  · rw [hG] at c; cases c
  · rw [hG] at c; injection c with c; subst c; exact h.2
  · rw [hG] at c; injection c with c; subst c; exact absurd h3 h.1

set_option maxRecDepth 100000 in
set_option maxHeartbeats 4000000 in
theorem inner (A B : Option Addr) (n c m d : Nat) (gs : List (Int × Int)) (ms : List (Int × Int × Int)) (w : World) (hR : Prs w A gs) (hS : Trs w B ms) (hn : gs.length = n) (hm : ms.length = m) (hmax2 : m ≤ maxLen) :
    Calls Try.prog 35 #[.slice A n c, .slice B m d] w fun e w' => e = .returned (.bool true) ∧ Bel w w' := by
  by_cases h40 : 40 < n
  · have hk : decide (40 < n) = true := by simpa using h40
    go_enter Try.func35, Try.ntmps35
    go_wp2_with (first | (go_at_call 41; refine (long_any _ _ _ _).mono ?_; rintro e w' ⟨rfl, rfl⟩) | (go_at_call 24; refine (known_any _).mono ?_; rintro e w7 ⟨rfl, hb7⟩))
    go_ret
    exact ⟨rfl, by (repeat (first | exact Bel.refl _ | assumption | refine Bel.drew ?_ | refine Bel.drewN ?_ _ | refine Bel.alloc ?_ _ | refine Bel.setCell ?_ (by first | omega | (simp; done) | (simp; omega) | (simp at *; omega)) _ | refine Bel.trans ?_ (by assumption)))⟩
  have hk : decide (40 < n) = false := by simpa using h40
  have hmi : (m : Int) ≤ 9223372036854775807 := by unfold maxLen at hmax2; omega
  by_cases h60 : 60 < m
  · clear hmax2
    go_enter Try.func35, Try.ntmps35
    go_wp2_with (first | (go_at_call 41; refine (long_any _ _ _ _).mono ?_; rintro e w' ⟨rfl, rfl⟩) | (go_at_call 24; refine (known_any _).mono ?_; rintro e w7 ⟨rfl, hb7⟩))
    go_ret
    exact ⟨rfl, by (repeat (first | exact Bel.refl _ | assumption | refine Bel.drew ?_ | refine Bel.drewN ?_ _ | refine Bel.alloc ?_ _ | refine Bel.setCell ?_ (by first | omega | (simp; done) | (simp; omega) | (simp at *; omega)) _ | refine Bel.trans ?_ (by assumption)))⟩
  have hmax : n ≤ maxLen := by unfold maxLen; omega
  have hmx : 6 ≤ maxLen := by unfold maxLen; omega
  have Hm := Lib.hid hm; clear hm
  clear hmi
  by_cases hE : grindE gs ms = 0
  · obtain ⟨e1, e2, G, hG, hL⟩ := grindE_zero hE
    have HF := Lib.hid (grind_fin e1 hL hG (movV_zero e2).2)
    have hl6 := (errV_zero hL).1
    have HE1 := Lib.hid e1; have HE2 := Lib.hid e2; have HG := Lib.hid hG; have HL := Lib.hid hL
    clear e1 e2 hG hL hE
    rcases A with _ | a
    · obtain rfl : gs = [] := by
        rcases hR with h | ⟨b, o, h, _⟩
        · exact h
        · cases h
      obtain rfl : n = 0 := by simpa using hn.symm
      clear hn
      have hpo : Prs (w.alloc (.cells #[] 58)) (some ⟨w.heap.size, 0, none⟩) [] := .inl rfl
      have hb1 : Bel w (w.alloc (.cells #[] 58)) := by (repeat (first | exact Bel.refl _ | assumption | refine Bel.drew ?_ | refine Bel.drewN ?_ _ | refine Bel.alloc ?_ _ | refine Bel.setCell ?_ (by first | omega | (simp; done) | (simp; omega) | (simp at *; omega)) _ | refine Bel.trans ?_ (by assumption)))
      clear h40
      go_enter Try.func35, Try.ntmps35
      go_wp2_with (go_at_call 41; refine (long_any _ _ _ _).mono ?_; rintro e w' ⟨rfl, rfl⟩)
      refine (rGrind_any _ B 0 c m d [] ms _ (hR.bel hb1) (hS.bel hb1) rfl Hm.out hmax hmax2).mono ?_
      intro e w2 h2
      obtain ⟨A1, n1, c1, rfl, hn1, hc1, hm1, hb2, hp1⟩ := GrindAns.ok h2 HE1.out HE2.out HG.out HL.out
      have HN1 := Lib.hid hn1.symm
      rw [← hn1] at hl6
      clear hn1 h2
      go_wp2_with fail
      refine (wGrind_any _ B 0 0 m d [] ms _ (hpo.bel hb2) (hS.bel (hb1.trans hb2)) rfl Hm.out hmax hmax2).mono ?_
      intro e w3 h3
      obtain ⟨A2, n2, c2, rfl, hn2, hc2, hm2, hb3, hp2⟩ := GrindAns.ok h3 HE1.out HE2.out HG.out HL.out
      have HN2 := Lib.hid hn2.symm
      obtain rfl : n2 = n1 := by rw [hn2]; exact HN1.out
      clear hn2 h3
      go_wp2_with fail
      refine (sameLot_any _ _ n2 c2 n2 c1 _ _ _ hp2 (hp1.bel hb3) HN2.out HN1.out (by omega) (by omega)).mono ?_
      rintro e w4 ⟨rfl, hb4⟩
      rw [same_self]
      have hb13 := hb1.trans (hb2.trans hb3)
      go_wp2_with fail
      refine (sameLot_any _ _ 0 0 0 c _ _ _ (hpo.bel ((hb2.trans hb3).trans hb4)) (hR.bel (hb13.trans hb4)) rfl rfl hmax hmax).mono ?_
      rintro e w5 ⟨rfl, hb5⟩
      rw [same_self]
      have hb15 := (hb13.trans hb4).trans hb5
      have hb35 := hb4.trans hb5
      clear hb1 hb2 hb3 hb4 hb5 hb13 hp1 hpo
      go_wp2_with fail
      refine (wFiner_any A2 _ n2 c2 0 c (lotF G) [] _ (hp2.bel hb35) (hR.bel hb15) HN2.out rfl (by omega) hmax).mono ?_
      rintro e w6 ⟨rfl, hb6⟩
      rw [HF.out]
      unfold boolE
      go_wp2_with (go_at_call 24; refine (known_any _).mono ?_; rintro e w7 ⟨rfl, hb7⟩)
      go_ret
      exact ⟨rfl, by (repeat (first | exact Bel.refl _ | assumption | refine Bel.drew ?_ | refine Bel.drewN ?_ _ | refine Bel.alloc ?_ _ | refine Bel.setCell ?_ (by first | omega | (simp; done) | (simp; omega) | (simp at *; omega)) _ | refine Bel.trans ?_ (by assumption)))⟩
    · obtain ⟨i0, hi, hz0, hz1, hz2⟩ := info_parts info2G
      have hcells := prs_cells (hR.bel ((Bel.refl w).alloc (.cells #[] 58)))
      have Hc := Lib.hid hcells; clear hcells
      have hlen := cel2_length gs
      rw [hn] at hlen
      have Hl := Lib.hid hlen; clear hlen
      have Hn := Lib.hid hn; clear hn
      have H63 := Lib.hid (show 0 + n ≤ maxLen by omega)
      have Hby := Lib.hid (show (0 + n) * 16 ≤ 140737488355328 by omega)
      go_enter Try.func35, Try.ntmps35
      go_wp2_with (first | (go_at_call 41; refine (long_any _ _ _ _).mono ?_; rintro e w' ⟨rfl, rfl⟩) | (at_builtin; refine wpList_append_own _ rfl _ _ 22 rfl w.heap.size 58 i0 _ 2 16 Try.underlying22 hi hz0 hz1 hz2 rfl (by decide) _ 0 [] rfl (World.ownsRow_lit w #[] 0 (Nat.le_refl _) (by decide) rfl) a n c (cel2 gs) rfl Hl.out Hc.out (cel2_one gs) H63.out Hby.out (by simp) ?_; intro v' w1 hown hgr _))
      have hb1 : Bel w w1 := Bel.grown ((Bel.refl w).alloc _) (g := w.heap.size) hgr (Nat.le_refl _)
      have hO := own_of hown Hn.out
      clear hown hgr
      obtain ⟨A0, n0, c0, rfl, hn0, hnc0, hm0, hA0⟩ := own_form3 hO
      obtain rfl : n0 = n := by rw [hn0]; exact Hn.out
      have hpo := hO.prs
      clear hn0 hO hA0 hnc0 hm0
      refine (rGrind_any _ B n0 c m d gs ms _ (hR.bel hb1) (hS.bel hb1) Hn.out Hm.out hmax hmax2).mono ?_
      intro e w2 h2
      obtain ⟨A1, n1, c1, rfl, hn1, hc1, hm1, hb2, hp1⟩ := GrindAns.ok h2 HE1.out HE2.out HG.out HL.out
      have HN1 := Lib.hid hn1.symm
      rw [← hn1] at hl6
      clear hn1 h2
      go_wp2_with fail
      refine (wGrind_any _ B n0 c0 m d gs ms _ (hpo.bel hb2) (hS.bel (hb1.trans hb2)) Hn.out Hm.out hmax hmax2).mono ?_
      intro e w3 h3
      obtain ⟨A2, n2, c2, rfl, hn2, hc2, hm2, hb3, hp2⟩ := GrindAns.ok h3 HE1.out HE2.out HG.out HL.out
      have HN2 := Lib.hid hn2.symm
      obtain rfl : n2 = n1 := by rw [hn2]; exact HN1.out
      clear hn2 h3
      go_wp2_with fail
      refine (sameLot_any _ _ n2 c2 n2 c1 _ _ _ hp2 (hp1.bel hb3) HN2.out HN1.out (by omega) (by omega)).mono ?_
      rintro e w4 ⟨rfl, hb4⟩
      rw [same_self]
      have hb13 := hb1.trans (hb2.trans hb3)
      go_wp2_with fail
      refine (sameLot_any _ _ n0 c0 n0 c _ _ _ (hpo.bel ((hb2.trans hb3).trans hb4)) (hR.bel (hb13.trans hb4)) Hn.out Hn.out hmax hmax).mono ?_
      rintro e w5 ⟨rfl, hb5⟩
      rw [same_self]
      have hb15 := (hb13.trans hb4).trans hb5
      have hb35 := hb4.trans hb5
      clear hb1 hb2 hb3 hb4 hb5 hb13 hp1 hpo
      go_wp2_with fail
      refine (wFiner_any A2 _ n2 c2 n0 c (lotF G) gs _ (hp2.bel hb35) (hR.bel hb15) HN2.out Hn.out (by omega) hmax).mono ?_
      rintro e w6 ⟨rfl, hb6⟩
      rw [HF.out]
      unfold boolE
      go_wp2_with (go_at_call 24; refine (known_any _).mono ?_; rintro e w7 ⟨rfl, hb7⟩)
      go_ret
      exact ⟨rfl, by (repeat (first | exact Bel.refl _ | assumption | refine Bel.drew ?_ | refine Bel.drewN ?_ _ | refine Bel.alloc ?_ _ | refine Bel.setCell ?_ (by first | omega | (simp; done) | (simp; omega) | (simp at *; omega)) _ | refine Bel.trans ?_ (by assumption)))⟩
  · have hne : (grindE gs ms != 0) = true := by simpa using hE
    have HX := Lib.hid hE; clear hE
    rcases A with _ | a
    · obtain rfl : gs = [] := by
        rcases hR with h | ⟨b, o, h, _⟩
        · exact h
        · cases h
      obtain rfl : n = 0 := by simpa using hn.symm
      clear hn
      have hpo : Prs (w.alloc (.cells #[] 58)) (some ⟨w.heap.size, 0, none⟩) [] := .inl rfl
      have hb1 : Bel w (w.alloc (.cells #[] 58)) := by (repeat (first | exact Bel.refl _ | assumption | refine Bel.drew ?_ | refine Bel.drewN ?_ _ | refine Bel.alloc ?_ _ | refine Bel.setCell ?_ (by first | omega | (simp; done) | (simp; omega) | (simp at *; omega)) _ | refine Bel.trans ?_ (by assumption)))
      clear h40
      go_enter Try.func35, Try.ntmps35
      go_wp2_with (go_at_call 41; refine (long_any _ _ _ _).mono ?_; rintro e w' ⟨rfl, rfl⟩)
      refine (rGrind_any _ B 0 c m d [] ms _ (hR.bel hb1) (hS.bel hb1) rfl Hm.out hmax hmax2).mono ?_
      intro e w2 h2
      obtain ⟨rfl, hb2⟩ := GrindAns.err h2 HX.out
      clear h2
      go_wp2_with fail
      refine (wGrind_any _ B 0 0 m d [] ms _ (hpo.bel hb2) (hS.bel (hb1.trans hb2)) rfl Hm.out hmax hmax2).mono ?_
      intro e w3 h3
      obtain ⟨rfl, hb3⟩ := GrindAns.err h3 HX.out
      clear h3
      go_wp2_with fail
      refine (sameLot_any none none 0 0 0 0 [] [] _ (.inl rfl) (.inl rfl) rfl rfl (by decide) (by decide)).mono ?_
      rintro e w4 ⟨rfl, hb4⟩
      rw [same_self]
      have hb13 := hb1.trans (hb2.trans hb3)
      go_wp2_with fail
      refine (sameLot_any _ _ 0 0 0 c _ _ _ (hpo.bel ((hb2.trans hb3).trans hb4)) (hR.bel (hb13.trans hb4)) rfl rfl hmax hmax).mono ?_
      rintro e w5 ⟨rfl, hb5⟩
      rw [same_self]
      have hb15 := (hb13.trans hb4).trans hb5
      clear hb1 hb2 hb3 hb4 hb5 hb13 hpo
      go_wp2_with (go_at_call 24; refine (known_any _).mono ?_; rintro e w7 ⟨rfl, hb7⟩)
      go_ret
      exact ⟨rfl, by (repeat (first | exact Bel.refl _ | assumption | refine Bel.drew ?_ | refine Bel.drewN ?_ _ | refine Bel.alloc ?_ _ | refine Bel.setCell ?_ (by first | omega | (simp; done) | (simp; omega) | (simp at *; omega)) _ | refine Bel.trans ?_ (by assumption)))⟩
    · obtain ⟨i0, hi, hz0, hz1, hz2⟩ := info_parts info2G
      have hcells := prs_cells (hR.bel ((Bel.refl w).alloc (.cells #[] 58)))
      have Hc := Lib.hid hcells; clear hcells
      have hlen := cel2_length gs
      rw [hn] at hlen
      have Hl := Lib.hid hlen; clear hlen
      have Hn := Lib.hid hn; clear hn
      have H63 := Lib.hid (show 0 + n ≤ maxLen by omega)
      have Hby := Lib.hid (show (0 + n) * 16 ≤ 140737488355328 by omega)
      go_enter Try.func35, Try.ntmps35
      go_wp2_with (first | (go_at_call 41; refine (long_any _ _ _ _).mono ?_; rintro e w' ⟨rfl, rfl⟩) | (at_builtin; refine wpList_append_own _ rfl _ _ 22 rfl w.heap.size 58 i0 _ 2 16 Try.underlying22 hi hz0 hz1 hz2 rfl (by decide) _ 0 [] rfl (World.ownsRow_lit w #[] 0 (Nat.le_refl _) (by decide) rfl) a n c (cel2 gs) rfl Hl.out Hc.out (cel2_one gs) H63.out Hby.out (by simp) ?_; intro v' w1 hown hgr _))
      have hb1 : Bel w w1 := Bel.grown ((Bel.refl w).alloc _) (g := w.heap.size) hgr (Nat.le_refl _)
      have hO := own_of hown Hn.out
      clear hown hgr
      obtain ⟨A0, n0, c0, rfl, hn0, hnc0, hm0, hA0⟩ := own_form3 hO
      obtain rfl : n0 = n := by rw [hn0]; exact Hn.out
      have hpo := hO.prs
      clear hn0 hO hA0 hnc0 hm0
      refine (rGrind_any _ B n0 c m d gs ms _ (hR.bel hb1) (hS.bel hb1) Hn.out Hm.out hmax hmax2).mono ?_
      intro e w2 h2
      obtain ⟨rfl, hb2⟩ := GrindAns.err h2 HX.out
      clear h2
      go_wp2_with fail
      refine (wGrind_any _ B n0 c0 m d gs ms _ (hpo.bel hb2) (hS.bel (hb1.trans hb2)) Hn.out Hm.out hmax hmax2).mono ?_
      intro e w3 h3
      obtain ⟨rfl, hb3⟩ := GrindAns.err h3 HX.out
      clear h3
      go_wp2_with fail
      refine (sameLot_any none none 0 0 0 0 [] [] _ (.inl rfl) (.inl rfl) rfl rfl (by decide) (by decide)).mono ?_
      rintro e w4 ⟨rfl, hb4⟩
      rw [same_self]
      have hb13 := hb1.trans (hb2.trans hb3)
      go_wp2_with fail
      refine (sameLot_any _ _ n0 c0 n0 c _ _ _ (hpo.bel ((hb2.trans hb3).trans hb4)) (hR.bel (hb13.trans hb4)) Hn.out Hn.out hmax hmax).mono ?_
      rintro e w5 ⟨rfl, hb5⟩
      rw [same_self]
      have hb15 := (hb13.trans hb4).trans hb5
      clear hb1 hb2 hb3 hb4 hb5 hb13 hpo
      go_wp2_with (go_at_call 24; refine (known_any _).mono ?_; rintro e w7 ⟨rfl, hb7⟩)
      go_ret
      exact ⟨rfl, by (repeat (first | exact Bel.refl _ | assumption | refine Bel.drew ?_ | refine Bel.drewN ?_ _ | refine Bel.alloc ?_ _ | refine Bel.setCell ?_ (by first | omega | (simp; done) | (simp; omega) | (simp at *; omega)) _ | refine Bel.trans ?_ (by assumption)))⟩

set_option maxHeartbeats 400000 in
theorem walk (A : Option Addr) (n c : Nat) (zs : List (Int × Int)) (B : Option Addr) (m d : Nat) (ys : List (Int × Int × Int)) (w : World) (a : Arg2 w A n c zs) (b : Arg3 w B m d ys) :
    Calls Try.prog 13 #[.slice A n c, .slice B m d] w fun e w' => e = .returned (.bool true) ∧ Bel w w' := by
  obtain ⟨e1, e2, e3⟩ := a.els
  obtain ⟨f1, f2, f3⟩ := b.els
  go_enter Try.func13, Try.ntmps13
  go_wp2_with fail
  refine (keepGrains_any A n c zs _ (a.prs.bel (by (repeat (first | exact Bel.refl _ | assumption | refine Bel.drew ?_ | refine Bel.drewN ?_ _ | refine Bel.alloc ?_ _ | refine Bel.setCell ?_ (by first | omega | (simp; done) | (simp; omega) | (simp at *; omega)) _ | refine Bel.trans ?_ (by assumption))))) a.len a.le a.nil a.reach).mono ?_
  rintro e w1 ⟨A', n', c', rfl, hn', hb1, hr1⟩
  have HN := Lib.hid hn'; clear hn'
  have hb01 : Bel w w1 := by (repeat (first | exact Bel.refl _ | assumption | refine Bel.drew ?_ | refine Bel.drewN ?_ _ | refine Bel.alloc ?_ _ | refine Bel.setCell ?_ (by first | omega | (simp; done) | (simp; omega) | (simp at *; omega)) _ | refine Bel.trans ?_ (by assumption)))
  go_wp2_with fail
  refine (keepMoves_any B m d ys _ (b.trs.bel hb01) b.len b.le b.nil b.reach).mono ?_
  rintro e w2 ⟨B', m', d', rfl, hm', hb2, hr2⟩
  have HM := Lib.hid hm'; clear hm'
  have hb02 : Bel w w2 := hb01.trans hb2
  go_wp2_with fail
  refine (inner A B n c m d _ _ _ (e1.bel hb02) (f1.bel hb02) e2 f2 f3).mono ?_
  rintro e w3 ⟨rfl, hb3⟩
  go_wp2_with fail
  refine (keptGrains_any A' A n' c' n c zs _ (hr1.bel (hb2.trans hb3)) (a.prs.bel (hb02.trans hb3)) HN.out.symm a.len a.le a.nil (reachN_le a.reach (by omega)).1).mono ?_
  rintro e w4 ⟨rfl, hb4⟩
  have hb24 := hb3.trans hb4
  go_wp2_with fail
  refine (keptMoves_any B' B m' d' m d ys _ (hr2.bel hb24) (b.trs.bel (hb02.trans hb24)) HM.out.symm b.len b.le b.nil (reachN_le b.reach (by omega)).1).mono ?_
  rintro e w5 ⟨rfl, hb5⟩
  go_wp2
  go_ret
  exact ⟨rfl, (hb02.trans hb24).trans hb5⟩

set_option maxRecDepth 100000 in
theorem lifted (os : Os) (started : os.Started) (H : Type) (enc : TypeId × Value → H) :
    ReturnsInHanded {} Try.checked os 13 .any (Rows.washGrindsSpec.pre6 enc Try.prog Try.f13 Rows.washGrindsRow.domain false) (Rows.washGrindsSpec.post enc Try.prog Try.f13 false true false false) := by
  refine returnsInHanded_of_change_sized (C := Try.checked) own started (by kernel_rfl) Try.func13
    (ChangeSpec.witness6 (enc := enc) (C := Try.checked) false ⟨#[], #[.slice none 0 0, .slice none 0 0], []⟩ 8 (by kernel_rfl) (by kernel_rfl) (by kernel_rfl) (by kernel_rfl)) ?_
  intro W base args ds gs before hval0 hW hcnd hsz0 _
  have hval : ∀ (j : Nat) t v, Try.f13.params[j]? = some t → args[j]? = some v → Value.okWide Try.prog W .any base t v := hval0
  have hsz : (DataW.weightsEach Try.prog (Try.f13.params.toList ++ Rows.washGrindsSpec.plain.varTypes Try.prog) (ds ++ gs)).all (· ≤ reachBytes) = true := hsz0
  have hW' := hW
  obtain ⟨p, q, hA0, hV, rfl, hfz, hnd⟩ := hW
  have hA : DataW.TrodAll enc Try.prog W 0 (fun _ => true) true Try.f13.params.toList args.toList ds p := hA0
  rw [Try.params13] at hA hval hsz
  obtain ⟨v0, vs0, d0, ds0, p0, q0, hargs, rfl, rfl, h0, r0⟩ := trodAll_cons hA
  obtain ⟨v1, vs1, d1, ds1, p1, q1, rfl, rfl, rfl, h1, r1⟩ := trodAll_cons r0
  obtain ⟨rfl, rfl, rfl⟩ := trodAll_nil r1
  obtain rfl : args = #[v0, v1] := by cases args; simp_all
  obtain ⟨rfl, rfl⟩ := trodVars_none hV
  have k0 := h0
  have lt0 : ∀ x ∈ p0, x.block < W.heap.size := by obtain ⟨m, hm⟩ := k0; exact DataW.trod_lt m _ _ _ hm
  have k1 := h1
  have lt1 : ∀ x ∈ p1, x.block < W.heap.size := by obtain ⟨m, hm⟩ := k1; exact DataW.trod_lt m _ _ _ hm
  have hr0 : ∀ es sp, d0 = .slice es sp → (es.length + sp.length) * 16 ≤ reachN := by
    intro es sp hd
    have := sized_slice (elems := es) (spare := sp) hsz (j := 0) (t := 22) (e := 58) rfl (by rw [hd]; rfl) Try.underlying22
    rw [bytesGrain] at this
    exact this
  obtain ⟨A0, n0, c0, zs0, rfl, a0⟩ := open_arg2 (hval 0 22 v0 rfl rfl) h0 hr0
  have hr1 : ∀ es sp, d1 = .slice es sp → (es.length + sp.length) * 24 ≤ reachN := by
    intro es sp hd
    have := sized_slice (elems := es) (spare := sp) hsz (j := 1) (t := 44) (e := 88) rfl (by rw [hd]; rfl) Try.underlying44
    rw [bytesMove] at this
    exact this
  obtain ⟨A1, n1, c1, zs1, rfl, a1⟩ := open_arg3 (hval 1 44 v1 rfl rfl) h1 hr1
  clear hA0 hval0
  refine (walk A0 n0 c0 zs0 A1 n1 c1 zs1 W a0 a1).mono fun e W' ⟨he, bel⟩ => ?_
  subst he
  exact ⟨_, rfl, _, _, _, [], _, [], hW', trodAll_mk1 (shut_bool Try.underlying4 _), trodAll_cons_mk (Below.trod laidOut (by kernel_rfl) (of_decide_eq_true (by kernel_rfl)) k0 bel lt0) (trodAll_cons_mk (Below.trod laidOut (by kernel_rfl) (of_decide_eq_true (by kernel_rfl)) k1 bel lt1) (trodAll_mk0)), rfl, Below.frame bel _, fun h => by cases h⟩

theorem over : Rows.washGrindsRow.holds Try.pinned (OpenSpec.ofChange Rows.washGrindsSpec) :=
  OpenClaim.holds_of_wide 13 Try.f13 rfl rfl rfl rfl rfl rfl rfl ⟨rfl, rfl, rfl, rfl, rfl⟩ rfl rfl rfl rfl rfl (by kernel_rfl) Try.func13 (by kernel_rfl)
    (of_decide_eq_true (by kernel_rfl)) (by unfold Func.isWrapper; rw [if_neg (of_decide_eq_false (by kernel_rfl))]; exact ⟨rfl, rfl⟩)
    (fun os started H enc _ => lifted os started H enc)

/-- The statement. -/
theorem proved : Rows.WashGrindsSaid := over
end Go.Proofs.Ytnlcndhbamcpdaa.washGrinds
