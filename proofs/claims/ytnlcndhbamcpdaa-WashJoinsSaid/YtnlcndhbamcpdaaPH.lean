/-
  The statement WashJoinsSaid: for all pairs of lots and sizes Join answers as the document says, either way round, what is of at most a size adds up, the lists stay as they were in their spare cells, too, and the known masses come out. No condition.
-/
import Derived.Test.YtnlcndhbamcpdaaBB
import Derived.Test.YtnlcndhbamcpdaaBC
import Derived.Test.YtnlcndhbamcpdaaY2
namespace Go.Proofs.Ytnlcndhbamcpdaa.washJoins
open Go.ChangeShapes Go.WideShapes Go.ChangeAt Go.RowKit Go.Joins

theorem JoinAns.err {w w' : World} {gs hs : List (Int × Int)} {e : Ending} (h : JoinAns w gs hs e w') (h1 : errB gs hs ≠ 0) : e = .returned (.tuple #[.slice none 0 0, .int .i64 (errB gs hs)]) ∧ Bel w w' := by
  rcases h with h | h
  · exact h.2
  · exact absurd h.1 h1
theorem JoinAns.ok {w w' : World} {gs hs : List (Int × Int)} {e : Ending} (h : JoinAns w gs hs e w') (h1 : errB gs hs = 0) (h2 : errV (lotF (joinF gs hs)) = 0) : OneLot w (lotF (joinF gs hs)) e w' := by
  rcases h with h | ⟨_, h | h⟩
  · exact absurd h1 h.1
  · exact h.2
  · exact absurd h2 h.1
theorem JoinAns.bad {w w' : World} {gs hs : List (Int × Int)} {e : Ending} (h : JoinAns w gs hs e w') (h1 : errB gs hs = 0) (h2 : errV (lotF (joinF gs hs)) ≠ 0) : e = .returned (.tuple #[.slice none 0 0, .int .i64 (errV (lotF (joinF gs hs)))]) ∧ Bel w w' := by
  rcases h with h | ⟨_, h | h⟩
  · exact absurd h1 h.1
  · exact absurd h.1 h2
  · exact h.2
theorem errB_sym {gs hs : List (Int × Int)} (h : errB gs hs = 0) : errB hs gs = 0 := by
  obtain ⟨a, b⟩ := errB_zero h
  unfold errB
  rw [if_pos b, a]
theorem same_self (l : List (Int × Int)) : same l l = true := by simp [same]
theorem join_below {gs hs : List (Int × Int)} (h : errB gs hs = 0) (h2 : errV (lotF (joinF gs hs)) = 0) (z : Int) : belowV gs z + belowV hs z = belowV (lotF (joinF gs hs)) z := by
  obtain ⟨a, b⟩ := errB_zero h
  rw [belowV_ok a, belowV_ok b, belowV_ok h2]
  exact sumB_join (fit_of gs a) (fit_of hs b) (fit_of _ h2) (fun i hi => massF_lotF _ hi) z
theorem below_bd {gs : List (Int × Int)} (h : errV gs = 0) (z : Int) : 0 ≤ belowV gs z ∧ belowV gs z ≤ 600 := by
  rw [belowV_ok h]
  have f := fit_of gs h
  have l := (errV_zero h).1
  have key : ∀ r : List (Int × Int), Fit r → 0 ≤ sumB r z ∧ sumB r z ≤ 100 * r.length := by
    intro r
    induction r with
    | nil => intro _; simp [sumB]
    | cons g r ih =>
      intro hf
      have h1 := ih fun x hx => hf x (by simp [hx])
      have h2 := hf g (by simp)
      have e1 : sumB (g :: r) z = (if g.1 ≤ z then g.2 else 0) + sumB r z := by simp [sumB]
      rw [e1, List.length_cons]
      split <;> omega
  have := key gs f
  omega

set_option maxRecDepth 100000 in
set_option maxHeartbeats 4000000 in
theorem inner (A B : Option Addr) (n c m d : Nat) (gs hs : List (Int × Int)) (size : Int) (w : World) (hR : Prs w A gs) (hS : Prs w B hs) (hn : gs.length = n) (hm : hs.length = m) (hc : n ≤ c) (hc2 : c ≤ maxLen) (hd : m ≤ d) (hd2 : d ≤ maxLen) :
    Calls Try.prog 39 #[.slice A n c, .slice B m d, .int .i64 size] w fun e w' => e = .returned (.bool true) ∧ Bel w w' := by
  by_cases h40 : 40 < n
  · have hk : decide (40 < n) = true := by simpa using h40
    go_enter Try.func39, Try.ntmps39
    go_wp2_with (first | (go_at_call 41; refine (long_any _ _ _ _).mono ?_; rintro e w' ⟨rfl, rfl⟩) | (go_at_call 24; refine (known_any _).mono ?_; rintro e w7 ⟨rfl, hb7⟩))
    go_ret
    exact ⟨rfl, by (repeat (first | exact Bel.refl _ | assumption | refine Bel.drew ?_ | refine Bel.drewN ?_ _ | refine Bel.alloc ?_ _ | refine Bel.setCell ?_ (by first | omega | (simp; done) | (simp; omega) | (simp at *; omega)) _ | refine Bel.trans ?_ (by assumption)))⟩
  have hk : decide (40 < n) = false := by simpa using h40
  by_cases h41 : 40 < m
  · have hk2 : decide (40 < m) = true := by simpa using h41
    go_enter Try.func39, Try.ntmps39
    go_wp2_with (first | (go_at_call 41; refine (long_any _ _ _ _).mono ?_; rintro e w' ⟨rfl, rfl⟩) | (go_at_call 24; refine (known_any _).mono ?_; rintro e w7 ⟨rfl, hb7⟩))
    go_ret
    exact ⟨rfl, by (repeat (first | exact Bel.refl _ | assumption | refine Bel.drew ?_ | refine Bel.drewN ?_ _ | refine Bel.alloc ?_ _ | refine Bel.setCell ?_ (by first | omega | (simp; done) | (simp; omega) | (simp at *; omega)) _ | refine Bel.trans ?_ (by assumption)))⟩
  have hk2 : decide (40 < m) = false := by simpa using h41
  have hmax : n ≤ maxLen := by omega
  have hmax2 : m ≤ maxLen := by omega
  have Hn := Lib.hid hn; clear hn
  have Hm := Lib.hid hm; clear hm
  by_cases hB : errB gs hs = 0
  · have hB2 := errB_sym hB
    by_cases hL : errV (lotF (joinF gs hs)) = 0
    · obtain ⟨e1, e2⟩ := errB_zero hB
      have HJ := Lib.hid (join_below hB hL size)
      obtain ⟨q1, q2⟩ := below_bd e1 size
      obtain ⟨q3, q4⟩ := below_bd e2 size
      have HB := Lib.hid hB; have HB2 := Lib.hid hB2; have HE1 := Lib.hid e1; have HE2 := Lib.hid e2; have HL := Lib.hid hL
      have HC := Lib.hid (joinF_comm hs gs)
      have hl6 := (errV_zero hL).1
      clear hB hB2 e1 e2 hL
      go_enter Try.func39, Try.ntmps39
      go_wp2_with (go_at_call 41; refine (long_any _ _ _ _).mono ?_; rintro e w' ⟨rfl, rfl⟩)
      refine (rJoin_any A B n c m d gs hs _ hR hS Hn.out Hm.out hmax hmax2).mono ?_
      intro e w1 h1
      obtain ⟨A1, n1, c1, rfl, hn1, hc1, hm1, hb1, hp1⟩ := JoinAns.ok h1 HB.out HL.out
      have HN1 := Lib.hid hn1.symm
      rw [← hn1] at hl6
      clear hn1 h1
      go_wp2_with fail
      refine (wJoin_any A B n c m d gs hs _ (hR.bel (by (repeat (first | exact Bel.refl _ | assumption | refine Bel.drew ?_ | refine Bel.drewN ?_ _ | refine Bel.alloc ?_ _ | refine Bel.setCell ?_ (by first | omega | (simp; done) | (simp; omega) | (simp at *; omega)) _ | refine Bel.trans ?_ (by assumption))))) (hS.bel (by (repeat (first | exact Bel.refl _ | assumption | refine Bel.drew ?_ | refine Bel.drewN ?_ _ | refine Bel.alloc ?_ _ | refine Bel.setCell ?_ (by first | omega | (simp; done) | (simp; omega) | (simp at *; omega)) _ | refine Bel.trans ?_ (by assumption))))) Hn.out Hm.out hmax hmax2).mono ?_
      intro e w2 h2
      obtain ⟨A2, n2, c2, rfl, hn2, hc2', hm2, hb2, hp2⟩ := JoinAns.ok h2 HB.out HL.out
      have HN2 := Lib.hid hn2.symm
      have hn12 : n2 = n1 := by rw [hn2]; exact HN1.out
      clear hn2 h2
      subst hn12
      go_wp2_with fail
      refine (sameLot_any A2 A1 n2 c2 n2 c1 _ _ _ (hp2.bel (by (repeat (first | exact Bel.refl _ | assumption | refine Bel.drew ?_ | refine Bel.drewN ?_ _ | refine Bel.alloc ?_ _ | refine Bel.setCell ?_ (by first | omega | (simp; done) | (simp; omega) | (simp at *; omega)) _ | refine Bel.trans ?_ (by assumption))))) (hp1.bel (by (repeat (first | exact Bel.refl _ | assumption | refine Bel.drew ?_ | refine Bel.drewN ?_ _ | refine Bel.alloc ?_ _ | refine Bel.setCell ?_ (by first | omega | (simp; done) | (simp; omega) | (simp at *; omega)) _ | refine Bel.trans ?_ (by assumption))))) HN2.out HN1.out (by omega) (by omega)).mono ?_
      rintro e w3 ⟨rfl, hb3⟩
      rw [same_self]
      go_wp2_with fail
      refine (wJoin_any B A m d n c hs gs _ (hS.bel (by (repeat (first | exact Bel.refl _ | assumption | refine Bel.drew ?_ | refine Bel.drewN ?_ _ | refine Bel.alloc ?_ _ | refine Bel.setCell ?_ (by first | omega | (simp; done) | (simp; omega) | (simp at *; omega)) _ | refine Bel.trans ?_ (by assumption))))) (hR.bel (by (repeat (first | exact Bel.refl _ | assumption | refine Bel.drew ?_ | refine Bel.drewN ?_ _ | refine Bel.alloc ?_ _ | refine Bel.setCell ?_ (by first | omega | (simp; done) | (simp; omega) | (simp at *; omega)) _ | refine Bel.trans ?_ (by assumption))))) Hm.out Hn.out hmax2 hmax).mono ?_
      intro e w4 h4
      obtain ⟨A4, n4, c4, rfl, hn4, hc4, hm4, hb4, hp4⟩ := JoinAns.ok h4 HB2.out (by rw [HC.out]; exact HL.out)
      rw [HC.out] at hn4 hp4
      have HN4 := Lib.hid hn4.symm
      clear hn4 h4
      go_wp2_with fail
      refine (wBelow_any A n c gs size _ (hR.bel (by (repeat (first | exact Bel.refl _ | assumption | refine Bel.drew ?_ | refine Bel.drewN ?_ _ | refine Bel.alloc ?_ _ | refine Bel.setCell ?_ (by first | omega | (simp; done) | (simp; omega) | (simp at *; omega)) _ | refine Bel.trans ?_ (by assumption))))) Hn.out hmax hc hc2).mono ?_
      rintro e w5 ⟨rfl, hb5⟩
      rw [HE1.out]
      go_wp2_with fail
      refine (wBelow_any B m d hs size _ (hS.bel (by (repeat (first | exact Bel.refl _ | assumption | refine Bel.drew ?_ | refine Bel.drewN ?_ _ | refine Bel.alloc ?_ _ | refine Bel.setCell ?_ (by first | omega | (simp; done) | (simp; omega) | (simp at *; omega)) _ | refine Bel.trans ?_ (by assumption))))) Hm.out hmax2 hd hd2).mono ?_
      rintro e w6 ⟨rfl, hb6⟩
      rw [HE2.out]
      go_wp2_with fail
      refine (wBelow_any A2 n2 c2 _ size _ (hp2.bel (by (repeat (first | exact Bel.refl _ | assumption | refine Bel.drew ?_ | refine Bel.drewN ?_ _ | refine Bel.alloc ?_ _ | refine Bel.setCell ?_ (by first | omega | (simp; done) | (simp; omega) | (simp at *; omega)) _ | refine Bel.trans ?_ (by assumption))))) HN2.out (by omega) hc2' hm2).mono ?_
      rintro e w7 ⟨rfl, hb7⟩
      rw [HL.out, ← HJ.out]
      generalize belowV gs size = x1 at *
      generalize belowV hs size = x2 at *
      have hsum : (x1 + x2 == x1 + x2) = true := by simp
      go_wp2_with (first | (go_at_call 50; refine (sameLot_any A4 A2 n4 c4 n2 c2 _ _ _ (hp4.bel (by (repeat (first | exact Bel.refl _ | assumption | refine Bel.drew ?_ | refine Bel.drewN ?_ _ | refine Bel.alloc ?_ _ | refine Bel.setCell ?_ (by first | omega | (simp; done) | (simp; omega) | (simp at *; omega)) _ | refine Bel.trans ?_ (by assumption))))) (hp2.bel (by (repeat (first | exact Bel.refl _ | assumption | refine Bel.drew ?_ | refine Bel.drewN ?_ _ | refine Bel.alloc ?_ _ | refine Bel.setCell ?_ (by first | omega | (simp; done) | (simp; omega) | (simp at *; omega)) _ | refine Bel.trans ?_ (by assumption))))) HN4.out HN2.out (by omega) (by omega)).mono ?_; rintro e w8 ⟨rfl, hb8⟩; rw [same_self]) | (go_at_call 24; refine (known_any _).mono ?_; rintro e w7 ⟨rfl, hb7⟩))
      go_ret
      exact ⟨rfl, by (repeat (first | exact Bel.refl _ | assumption | refine Bel.drew ?_ | refine Bel.drewN ?_ _ | refine Bel.alloc ?_ _ | refine Bel.setCell ?_ (by first | omega | (simp; done) | (simp; omega) | (simp at *; omega)) _ | refine Bel.trans ?_ (by assumption)))⟩
    · have hne : (errV (lotF (joinF gs hs)) != 0) = true := by simpa using hL
      have HB := Lib.hid hB; have HL := Lib.hid hL
      clear hB hL hB2
      go_enter Try.func39, Try.ntmps39
      go_wp2_with (go_at_call 41; refine (long_any _ _ _ _).mono ?_; rintro e w' ⟨rfl, rfl⟩)
      refine (rJoin_any A B n c m d gs hs _ hR hS Hn.out Hm.out hmax hmax2).mono ?_
      intro e w1 h1
      obtain ⟨rfl, hb1⟩ := JoinAns.bad h1 HB.out HL.out
      clear h1
      go_wp2_with fail
      refine (wJoin_any A B n c m d gs hs _ (hR.bel (by (repeat (first | exact Bel.refl _ | assumption | refine Bel.drew ?_ | refine Bel.drewN ?_ _ | refine Bel.alloc ?_ _ | refine Bel.setCell ?_ (by first | omega | (simp; done) | (simp; omega) | (simp at *; omega)) _ | refine Bel.trans ?_ (by assumption))))) (hS.bel (by (repeat (first | exact Bel.refl _ | assumption | refine Bel.drew ?_ | refine Bel.drewN ?_ _ | refine Bel.alloc ?_ _ | refine Bel.setCell ?_ (by first | omega | (simp; done) | (simp; omega) | (simp at *; omega)) _ | refine Bel.trans ?_ (by assumption))))) Hn.out Hm.out hmax hmax2).mono ?_
      intro e w2 h2
      obtain ⟨rfl, hb2⟩ := JoinAns.bad h2 HB.out HL.out
      clear h2
      go_wp2_with fail
      refine (sameLot_any none none 0 0 0 0 [] [] _ (.inl rfl) (.inl rfl) rfl rfl (by decide) (by decide)).mono ?_
      rintro e w3 ⟨rfl, hb3⟩
      rw [same_self]
      go_wp2_with (go_at_call 24; refine (known_any _).mono ?_; rintro e w7 ⟨rfl, hb7⟩)
      go_ret
      exact ⟨rfl, by (repeat (first | exact Bel.refl _ | assumption | refine Bel.drew ?_ | refine Bel.drewN ?_ _ | refine Bel.alloc ?_ _ | refine Bel.setCell ?_ (by first | omega | (simp; done) | (simp; omega) | (simp at *; omega)) _ | refine Bel.trans ?_ (by assumption)))⟩
  · have hne : (errB gs hs != 0) = true := by simpa using hB
    have HB := Lib.hid hB
    clear hB
    go_enter Try.func39, Try.ntmps39
    go_wp2_with (go_at_call 41; refine (long_any _ _ _ _).mono ?_; rintro e w' ⟨rfl, rfl⟩)
    refine (rJoin_any A B n c m d gs hs _ hR hS Hn.out Hm.out hmax hmax2).mono ?_
    intro e w1 h1
    obtain ⟨rfl, hb1⟩ := JoinAns.err h1 HB.out
    clear h1
    go_wp2_with fail
    refine (wJoin_any A B n c m d gs hs _ (hR.bel (by (repeat (first | exact Bel.refl _ | assumption | refine Bel.drew ?_ | refine Bel.drewN ?_ _ | refine Bel.alloc ?_ _ | refine Bel.setCell ?_ (by first | omega | (simp; done) | (simp; omega) | (simp at *; omega)) _ | refine Bel.trans ?_ (by assumption))))) (hS.bel (by (repeat (first | exact Bel.refl _ | assumption | refine Bel.drew ?_ | refine Bel.drewN ?_ _ | refine Bel.alloc ?_ _ | refine Bel.setCell ?_ (by first | omega | (simp; done) | (simp; omega) | (simp at *; omega)) _ | refine Bel.trans ?_ (by assumption))))) Hn.out Hm.out hmax hmax2).mono ?_
    intro e w2 h2
    obtain ⟨rfl, hb2⟩ := JoinAns.err h2 HB.out
    clear h2
    go_wp2_with fail
    refine (sameLot_any none none 0 0 0 0 [] [] _ (.inl rfl) (.inl rfl) rfl rfl (by decide) (by decide)).mono ?_
    rintro e w3 ⟨rfl, hb3⟩
    rw [same_self]
    go_wp2_with (go_at_call 24; refine (known_any _).mono ?_; rintro e w7 ⟨rfl, hb7⟩)
    go_ret
    exact ⟨rfl, by (repeat (first | exact Bel.refl _ | assumption | refine Bel.drew ?_ | refine Bel.drewN ?_ _ | refine Bel.alloc ?_ _ | refine Bel.setCell ?_ (by first | omega | (simp; done) | (simp; omega) | (simp at *; omega)) _ | refine Bel.trans ?_ (by assumption)))⟩

set_option maxHeartbeats 400000 in
theorem walk (A : Option Addr) (n c : Nat) (zs : List (Int × Int)) (B : Option Addr) (m d : Nat) (ys : List (Int × Int)) (size : Int) (w : World) (a : Arg2 w A n c zs) (b : Arg2 w B m d ys) :
    Calls Try.prog 16 #[.slice A n c, .slice B m d, .int .i64 size] w fun e w' => e = .returned (.bool true) ∧ Bel w w' := by
  obtain ⟨e1, e2, e3⟩ := a.els
  obtain ⟨f1, f2, f3⟩ := b.els
  have hcm := (reachN_le a.reach (by omega)).2
  have hcm2 := (reachN_le b.reach (by omega)).2
  go_enter Try.func16, Try.ntmps16
  go_wp2_with fail
  refine (keepGrains_any A n c zs _ (a.prs.bel (by (repeat (first | exact Bel.refl _ | assumption | refine Bel.drew ?_ | refine Bel.drewN ?_ _ | refine Bel.alloc ?_ _ | refine Bel.setCell ?_ (by first | omega | (simp; done) | (simp; omega) | (simp at *; omega)) _ | refine Bel.trans ?_ (by assumption))))) a.len a.le a.nil a.reach).mono ?_
  rintro e w1 ⟨A', n', c', rfl, hn', hb1, hr1⟩
  have HN := Lib.hid hn'; clear hn'
  have hb01 : Bel w w1 := by (repeat (first | exact Bel.refl _ | assumption | refine Bel.drew ?_ | refine Bel.drewN ?_ _ | refine Bel.alloc ?_ _ | refine Bel.setCell ?_ (by first | omega | (simp; done) | (simp; omega) | (simp at *; omega)) _ | refine Bel.trans ?_ (by assumption)))
  go_wp2_with fail
  refine (keepGrains_any B m d ys _ (b.prs.bel hb01) b.len b.le b.nil b.reach).mono ?_
  rintro e w2 ⟨B', m', d', rfl, hm', hb2, hr2⟩
  have HM := Lib.hid hm'; clear hm'
  have hb02 : Bel w w2 := hb01.trans hb2
  go_wp2_with fail
  refine (inner A B n c m d _ _ size _ (e1.bel hb02) (f1.bel hb02) e2 f2 a.le hcm b.le hcm2).mono ?_
  rintro e w3 ⟨rfl, hb3⟩
  go_wp2_with fail
  refine (keptGrains_any A' A n' c' n c zs _ (hr1.bel (hb2.trans hb3)) (a.prs.bel (hb02.trans hb3)) HN.out.symm a.len a.le a.nil (reachN_le a.reach (by omega)).1).mono ?_
  rintro e w4 ⟨rfl, hb4⟩
  have hb24 := hb3.trans hb4
  go_wp2_with fail
  refine (keptGrains_any B' B m' d' m d ys _ (hr2.bel hb24) (b.prs.bel (hb02.trans hb24)) HM.out.symm b.len b.le b.nil (reachN_le b.reach (by omega)).1).mono ?_
  rintro e w5 ⟨rfl, hb5⟩
  go_wp2
  go_ret
  exact ⟨rfl, (hb02.trans hb24).trans hb5⟩

set_option maxRecDepth 100000 in
theorem lifted (os : Os) (started : os.Started) (H : Type) (enc : TypeId × Value → H) :
    ReturnsInHanded {} Try.checked os 16 .any (Rows.washJoinsSpec.pre6 enc Try.prog Try.f16 Rows.washJoinsRow.domain false) (Rows.washJoinsSpec.post enc Try.prog Try.f16 false true false false) := by
  refine returnsInHanded_of_change_sized (C := Try.checked) own started (by kernel_rfl) Try.func16
    (ChangeSpec.witness6 (enc := enc) (C := Try.checked) false ⟨#[], #[.slice none 0 0, .slice none 0 0, .int .i64 0], []⟩ 8 (by kernel_rfl) (by kernel_rfl) (by kernel_rfl) (by kernel_rfl)) ?_
  intro W base args ds gs before hval0 hW hcnd hsz0 _
  have hval : ∀ (j : Nat) t v, Try.f16.params[j]? = some t → args[j]? = some v → Value.okWide Try.prog W .any base t v := hval0
  have hsz : (DataW.weightsEach Try.prog (Try.f16.params.toList ++ Rows.washJoinsSpec.plain.varTypes Try.prog) (ds ++ gs)).all (· ≤ reachBytes) = true := hsz0
  have hW' := hW
  obtain ⟨p, q, hA0, hV, rfl, hfz, hnd⟩ := hW
  have hA : DataW.TrodAll enc Try.prog W 0 (fun _ => true) true Try.f16.params.toList args.toList ds p := hA0
  rw [Try.params16] at hA hval hsz
  obtain ⟨v0, vs0, d0, ds0, p0, q0, hargs, rfl, rfl, h0, r0⟩ := trodAll_cons hA
  obtain ⟨v1, vs1, d1, ds1, p1, q1, rfl, rfl, rfl, h1, r1⟩ := trodAll_cons r0
  obtain ⟨v2, vs2, d2, ds2, p2, q2, rfl, rfl, rfl, h2, r2⟩ := trodAll_cons r1
  obtain ⟨rfl, rfl, rfl⟩ := trodAll_nil r2
  obtain rfl : args = #[v0, v1, v2] := by cases args; simp_all
  obtain ⟨rfl, rfl⟩ := trodVars_none hV
  have k0 := h0
  have lt0 : ∀ x ∈ p0, x.block < W.heap.size := by obtain ⟨m, hm⟩ := k0; exact DataW.trod_lt m _ _ _ hm
  have k1 := h1
  have lt1 : ∀ x ∈ p1, x.block < W.heap.size := by obtain ⟨m, hm⟩ := k1; exact DataW.trod_lt m _ _ _ hm
  have k2 := h2
  have lt2 : ∀ x ∈ p2, x.block < W.heap.size := by obtain ⟨m, hm⟩ := k2; exact DataW.trod_lt m _ _ _ hm
  have hr0 : ∀ es sp, d0 = .slice es sp → (es.length + sp.length) * 16 ≤ reachN := by
    intro es sp hd
    have := sized_slice (elems := es) (spare := sp) hsz (j := 0) (t := 22) (e := 58) rfl (by rw [hd]; rfl) Try.underlying22
    rw [bytesGrain] at this
    exact this
  obtain ⟨A0, n0, c0, zs0, rfl, a0⟩ := open_arg2 (hval 0 22 v0 rfl rfl) h0 hr0
  have hr1 : ∀ es sp, d1 = .slice es sp → (es.length + sp.length) * 16 ≤ reachN := by
    intro es sp hd
    have := sized_slice (elems := es) (spare := sp) hsz (j := 1) (t := 22) (e := 58) rfl (by rw [hd]; rfl) Try.underlying22
    rw [bytesGrain] at this
    exact this
  obtain ⟨A1, n1, c1, zs1, rfl, a1⟩ := open_arg2 (hval 1 22 v1 rfl rfl) h1 hr1
  obtain ⟨x2, rfl, rfl, rfl, w2⟩ := open_int Try.underlying3 (hval 2 3 v2 rfl rfl) h2
  clear hA0 hval0
  refine (walk A0 n0 c0 zs0 A1 n1 c1 zs1 x2 W a0 a1).mono fun e W' ⟨he, bel⟩ => ?_
  subst he
  exact ⟨_, rfl, _, _, _, [], _, [], hW', trodAll_mk1 (shut_bool Try.underlying4 _), trodAll_cons_mk (Below.trod laidOut (by kernel_rfl) (of_decide_eq_true (by kernel_rfl)) k0 bel lt0) (trodAll_cons_mk (Below.trod laidOut (by kernel_rfl) (of_decide_eq_true (by kernel_rfl)) k1 bel lt1) (trodAll_cons_mk (shut_int Try.underlying3 w2) (trodAll_mk0))), rfl, Below.frame bel _, fun h => by cases h⟩

theorem over : Rows.washJoinsRow.holds Try.pinned (OpenSpec.ofChange Rows.washJoinsSpec) :=
  OpenClaim.holds_of_wide 16 Try.f16 rfl rfl rfl rfl rfl rfl rfl ⟨rfl, rfl, rfl, rfl, rfl⟩ rfl rfl rfl rfl rfl (by kernel_rfl) Try.func16 (by kernel_rfl)
    (of_decide_eq_true (by kernel_rfl)) (by unfold Func.isWrapper; rw [if_neg (of_decide_eq_false (by kernel_rfl))]; exact ⟨rfl, rfl⟩)
    (fun os started H enc _ => lifted os started H enc)

/-- The statement. -/
theorem proved : Rows.WashJoinsSaid := over
end Go.Proofs.Ytnlcndhbamcpdaa.washJoins
