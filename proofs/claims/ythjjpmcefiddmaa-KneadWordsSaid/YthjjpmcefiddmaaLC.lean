/-
  The statement KneadWordsSaid: for all lists and words Fold and Unfold answer as the document says, what is folded and unfolded is as before, the lists stay as they were in their spare cells, too, and the known answers come out. No condition.
-/
import Derived.Test.YthjjpmcefiddmaaK
import Derived.Test.YthjjpmcefiddmaaM
import Derived.Test.YthjjpmcefiddmaaO
namespace Go.Proofs.Ythjjpmcefiddmaa.kneadWords
open Go.ChangeShapes Go.WideShapes Go.ChangeAt Go.RowKit Go.Joins

attribute [local go_sem] Oper.semAt_some

set_option maxRecDepth 100000 in
set_option maxHeartbeats 4000000 in
theorem inner (A : Option Addr) (n c : Nat) (l : List Int) (B : Option Addr) (m d : Nat) (ws : List Int) (w : World) (hR : Ints w A l) (hn : l.length = n) (_hc : n ≤ c) (_hmx : n ≤ maxLen) (hB : Ints w B ws) (hm : ws.length = m) (_hd : m ≤ d) (hmy : m ≤ maxLen) :
    Calls Try.prog 20 #[.slice A n c, .slice B m d] w fun e w' => e = .returned (.bool true) ∧ Bel w w' := by
  have Hn := Lib.hid hn; have Hm := Lib.hid hm
  by_cases ha : 100 < n
  · have HL := Lib.hid (decide_eq_true ha)
    clear ha hn hm
    go_enter Try.func20, Try.ntmps20
    go_wp2_with fail
    refine (long_any A n c _).mono ?_
    rintro e w1 ⟨rfl, rfl⟩
    rw [HL.out]
    go_wp2_with fail
    refine (known_any _).mono ?_
    rintro e w9 ⟨rfl, hb9⟩
    go_wp2
    go_ret
    exact ⟨rfl, hb9⟩
  · have HL := Lib.hid (decide_eq_false ha)
    by_cases hb : 100 < m
    · have HL2 := Lib.hid (decide_eq_true hb)
      clear ha hb hn hm
      go_enter Try.func20, Try.ntmps20
      go_wp2_with fail
      refine (long_any A n c _).mono ?_
      rintro e w1 ⟨rfl, rfl⟩
      rw [HL.out]
      go_wp2_with fail
      refine (long_any B m d _).mono ?_
      rintro e w1 ⟨rfl, rfl⟩
      rw [HL2.out]
      go_wp2_with fail
      refine (known_any _).mono ?_
      rintro e w9 ⟨rfl, hb9⟩
      go_wp2
      go_ret
      exact ⟨rfl, hb9⟩
    · have HL2 := Lib.hid (decide_eq_false hb)
      clear ha hb
      by_cases hE : eDW (n : Int) ws = 0
      · obtain ⟨hE1, hE2⟩ := eDW_zero hE
        obtain ⟨h, h1, h16, h3⟩ := eD_zero hE1
        obtain rfl : n = 2 * h := by omega
        have HW := Lib.hid (eW_zero hE2).2
        have HE := Lib.hid hE
        have hmxx : 2 * h ≤ maxLen := by unfold maxLen; omega
        clear h3 hE1 hE2 hE hn hm
        go_enter Try.func20, Try.ntmps20
        go_wp2_with fail
        refine (long_any A (2 * h) c _).mono ?_
        rintro e w1 ⟨rfl, hw1⟩
        subst hw1
        rw [HL.out]
        go_wp2_with fail
        refine (long_any B m d _).mono ?_
        rintro e w1 ⟨rfl, hw1⟩
        subst hw1
        rw [HL2.out]
        go_wp2_with fail
        refine (rFold_ok h A c l B m d ws _ hR Hn.out hB Hm.out HE.out).mono ?_
        rintro e w2 ⟨g2, rfl, hg2, hb2, hr2⟩
        have hJ2 := hr2.byF
        go_wp2_with fail
        refine (rUnfold_ok h A c l B m d ws _ (hR.bel hb2) Hn.out (hB.bel hb2) Hm.out HE.out).mono ?_
        rintro e w3 ⟨g3, rfl, hg3, hb3, hr3⟩
        have hJ3 := hr3.byF
        have hb13 := hb2.trans hb3
        go_wp2_with fail
        refine (fold_ok h A c l B m d ws _ (hR.bel hb13) Hn.out (hB.bel hb13) Hm.out HE.out).mono ?_
        rintro e w4 ⟨A4, c4, rfl, hc4, hb4, hI4⟩
        have hb14 := hb13.trans hb4
        go_wp2_with fail
        refine (unfold_ok h A c l B m d ws _ (hR.bel hb14) Hn.out (hB.bel hb14) Hm.out HE.out).mono ?_
        rintro e w5 ⟨A5, c5, rfl, hc5, hb5, hI5⟩
        have hb15 := hb14.trans hb5
        have hb35 := hb4.trans hb5
        clear hr2 hr3
        go_wp2_with fail
        refine (sameInts_any A4 (some ⟨g2, 0, none⟩) (2 * h) c4 (2 * h) (2 * h) _ _ (hI4.bel hb5) (hJ2.bel (hb3.trans hb35)) (byF_len _ _ _) (byF_len _ _ _) hmxx).mono ?_
        rintro e w6 ⟨rfl, hb6⟩
        go_wp2_with fail
        refine (sameInts_any A5 (some ⟨g3, 0, none⟩) (2 * h) c5 (2 * h) (2 * h) _ _ (hI5.bel hb6) (hJ3.bel (hb35.trans hb6)) (byF_len _ _ _) (byF_len _ _ _) hmxx).mono ?_
        rintro e w7 ⟨rfl, hb7⟩
        have hb57 := hb6.trans hb7
        have hb17 := hb15.trans hb57
        go_wp2_with fail
        refine (unfold_ok h A4 c4 _ B m d ws _ (hI4.bel (hb5.trans hb57)) (byF_len _ _ _) (hB.bel hb17) Hm.out HE.out).mono ?_
        rintro e w8 ⟨A8, c8, rfl, hc8, hb8, hI8⟩
        have HB := Lib.hid (show byF h (goW h ws) (byF h (unW h ws) l) = l from unf_fold HW.out Hn.out)
        rw [HB.out] at hI8
        go_wp2_with fail
        refine (sameInts_any A8 A (2 * h) c8 (2 * h) c l _ hI8 (hR.bel (hb17.trans hb8)) Hn.out Hn.out hmxx).mono ?_
        rintro e w9 ⟨rfl, hb9⟩
        go_wp2_with fail
        refine (known_any _).mono ?_
        rintro e wa ⟨rfl, hba⟩
        go_wp2
        go_ret
        exact ⟨rfl, ((hb17.trans hb8).trans hb9).trans hba⟩
      · obtain ⟨x, hx⟩ : ∃ x, x = eDW (n : Int) ws := ⟨_, rfl⟩
        have HX := Lib.hid hx
        have hx0 : (x != 0) = true := by rw [hx]; simpa using hE
        have hxx : (x != x) = false := by simp
        have HE := Lib.hid hE
        clear hE hx hn hm
        go_enter Try.func20, Try.ntmps20
        go_wp2_with fail
        refine (long_any A n c _).mono ?_
        rintro e w1 ⟨rfl, hw1⟩
        subst hw1
        rw [HL.out]
        go_wp2_with fail
        refine (long_any B m d _).mono ?_
        rintro e w1 ⟨rfl, hw1⟩
        subst hw1
        rw [HL2.out]
        go_wp2_with fail
        refine (rFold_err A n c B m d ws _ hB Hm.out hmy HE.out).mono ?_
        rintro e w2 ⟨rfl, hb2⟩
        rw [← HX.out]
        go_wp2_with fail
        refine (rUnfold_err A n c B m d ws _ (hB.bel hb2) Hm.out hmy HE.out).mono ?_
        rintro e w3 ⟨rfl, hb3⟩
        rw [← HX.out]
        have hb13 := hb2.trans hb3
        go_wp2_with fail
        refine (fold_err A n c B m d ws _ (hB.bel hb13) Hm.out hmy HE.out).mono ?_
        rintro e w4 ⟨rfl, hb4⟩
        rw [← HX.out]
        have hb14 := hb13.trans hb4
        go_wp2_with fail
        refine (unfold_err A n c B m d ws _ (hB.bel hb14) Hm.out hmy HE.out).mono ?_
        rintro e w5 ⟨rfl, hb5⟩
        rw [← HX.out]
        have hb15 := hb14.trans hb5
        go_wp2_with fail
        refine (sameInts_any none none 0 0 0 0 [] _ (.inl rfl) (.inl rfl) rfl rfl (Nat.zero_le _)).mono ?_
        rintro e w6 ⟨rfl, hb6⟩
        go_wp2_with fail
        refine (sameInts_any none none 0 0 0 0 [] _ (.inl rfl) (.inl rfl) rfl rfl (Nat.zero_le _)).mono ?_
        rintro e w7 ⟨rfl, hb7⟩
        go_wp2_with fail
        refine (known_any _).mono ?_
        rintro e w8 ⟨rfl, hb8⟩
        go_wp2
        go_ret
        exact ⟨rfl, ((hb15.trans hb6).trans hb7).trans hb8⟩

set_option maxRecDepth 100000 in
set_option maxHeartbeats 1000000 in
theorem walk (A0 : Option Addr) (n0 c0 : Nat) (zs0 : List Int) (A1 : Option Addr) (n1 c1 : Nat) (zs1 : List Int) (w : World) (hx0 : ArgI w A0 n0 c0 zs0) (hx1 : ArgI w A1 n1 c1 zs1) :
    Calls Try.prog 5 #[.slice A0 n0 c0, .slice A1 n1 c1] w fun e w' => e = .returned (.bool true) ∧ Bel w w' := by
  obtain ⟨y0, z0, m0⟩ := hx0.els
  obtain ⟨y1, z1, m1⟩ := hx1.els
  go_enter Try.func5, Try.ntmps5
  go_wp2_with fail
  refine (keepInts_any A0 n0 c0 zs0 _ (hx0.ints.bel (Bel.refl w)) hx0.len hx0.le hx0.nil hx0.reach).mono ?_
  rintro e k0 ⟨B0, q0, d0, rfl, hq0, hk0, hI0, hlo0⟩
  have HQ0 := Lib.hid hq0; clear hq0 hlo0
  have hc0 : Bel w k0 := (Bel.refl w).trans hk0
  go_wp2_with fail
  refine (keepInts_any A1 n1 c1 zs1 _ (hx1.ints.bel hc0) hx1.len hx1.le hx1.nil hx1.reach).mono ?_
  rintro e k1 ⟨B1, q1, d1, rfl, hq1, hk1, hI1, hlo1⟩
  have HQ1 := Lib.hid hq1; clear hq1 hlo1
  have hc1 : Bel w k1 := hc0.trans hk1
  go_wp2_with fail
  refine (inner A0 n0 c0 _ A1 n1 c1 _ _ (y0.bel hc1) z0 hx0.le m0 (y1.bel hc1) z1 hx1.le m1).mono ?_
  rintro e w4 ⟨rfl, hb4⟩
  have hw4 : Bel w w4 := hc1.trans hb4
  go_wp2_with fail
  refine (keptInts_any B0 A0 q0 d0 n0 c0 zs0 _ (hI0.bel (hk1.trans hb4)) (hx0.ints.bel hw4) HQ0.out.symm hx0.len hx0.le hx0.nil (reachN_le hx0.reach (by omega)).1).mono ?_
  rintro e u0 ⟨rfl, hu0⟩
  have hv0 := hw4.trans hu0
  go_wp2_with fail
  refine (keptInts_any B1 A1 q1 d1 n1 c1 zs1 _ (hI1.bel (hb4.trans hu0)) (hx1.ints.bel hv0) HQ1.out.symm hx1.len hx1.le hx1.nil (reachN_le hx1.reach (by omega)).1).mono ?_
  rintro e u1 ⟨rfl, hu1⟩
  have hv1 := hv0.trans hu1
  go_wp2
  go_ret
  exact ⟨rfl, hv1⟩

set_option maxRecDepth 100000 in
theorem lifted (os : Os) (started : os.Started) (H : Type) (enc : TypeId × Value → H) :
    ReturnsInHanded {} Try.checked os 5 .any (Rows.kneadWordsSpec.pre6 enc Try.prog Try.f5 Rows.kneadWordsRow.domain false) (Rows.kneadWordsSpec.post enc Try.prog Try.f5 false true false false) := by
  refine returnsInHanded_of_change_sized (C := Try.checked) own started (by kernel_rfl) Try.func5
    (ChangeSpec.witness6 (enc := enc) (C := Try.checked) false ⟨#[], #[.slice none 0 0, .slice none 0 0], []⟩ 8 (by kernel_rfl) (by kernel_rfl) (by kernel_rfl) (by kernel_rfl)) ?_
  intro W base args ds gs before hval0 hW hcnd hsz0 _
  have hval : ∀ (j : Nat) t v, Try.f5.params[j]? = some t → args[j]? = some v → Value.okWide Try.prog W .any base t v := hval0
  have hsz : (DataW.weightsEach Try.prog (Try.f5.params.toList ++ Rows.kneadWordsSpec.plain.varTypes Try.prog) (ds ++ gs)).all (· ≤ reachBytes) = true := hsz0
  have hW' := hW
  obtain ⟨p, q, hA0, hV, rfl, hfz, hnd⟩ := hW
  have hA : DataW.TrodAll enc Try.prog W 0 (fun _ => true) true Try.f5.params.toList args.toList ds p := hA0
  rw [Try.params5] at hA hval hsz
  obtain ⟨v0, vs0, d0, ds0, p0, q0, hargs, rfl, rfl, h0, r0⟩ := trodAll_cons hA
  obtain ⟨v1, vs1, d1, ds1, p1, q1, rfl, rfl, rfl, h1, r1⟩ := trodAll_cons r0
  obtain ⟨rfl, rfl, rfl⟩ := trodAll_nil r1
  obtain rfl : args = #[v0, v1] := by cases args; simp_all
  obtain ⟨rfl, rfl⟩ := trodVars_none hV
  have k0 := h0
  have lt0 : ∀ x ∈ p0, x.block < W.heap.size := by obtain ⟨m, hm⟩ := k0; exact DataW.trod_lt m _ _ _ hm
  have k1 := h1
  have lt1 : ∀ x ∈ p1, x.block < W.heap.size := by obtain ⟨m, hm⟩ := k1; exact DataW.trod_lt m _ _ _ hm
  have hr0 : ∀ k ∈ d0.weights Try.prog 22, k ≤ reachN := fun k hk => by rw [← reach_eq]; simpa using List.all_eq_true.1 hsz k (DataW.weights_mem_each (j := 0) rfl rfl k hk)
  obtain ⟨A0, n0, c0, zs0, rfl, a0⟩ := open_argI (hval 0 22 v0 rfl rfl) h0 hr0
  have hr1 : ∀ k ∈ d1.weights Try.prog 22, k ≤ reachN := fun k hk => by rw [← reach_eq]; simpa using List.all_eq_true.1 hsz k (DataW.weights_mem_each (j := 1) rfl rfl k hk)
  obtain ⟨A1, n1, c1, zs1, rfl, a1⟩ := open_argI (hval 1 22 v1 rfl rfl) h1 hr1
  clear hA0 hval0
  refine (walk A0 n0 c0 zs0 A1 n1 c1 zs1 W a0 a1).mono fun e W' ⟨he, bel⟩ => ?_
  subst he
  exact ⟨_, rfl, _, _, _, [], _, [], hW', trodAll_mk1 (shut_bool Try.underlying4 _), trodAll_cons_mk (Below.trod laidOut (by kernel_rfl) (of_decide_eq_true (by kernel_rfl)) k0 bel lt0) (trodAll_cons_mk (Below.trod laidOut (by kernel_rfl) (of_decide_eq_true (by kernel_rfl)) k1 bel lt1) (trodAll_mk0)), rfl, Below.frame bel _, fun h => by cases h⟩

theorem over : Rows.kneadWordsRow.holds Try.pinned (OpenSpec.ofChange Rows.kneadWordsSpec) :=
  OpenClaim.holds_of_wide 5 Try.f5 rfl rfl rfl rfl rfl rfl rfl ⟨rfl, rfl, rfl, rfl, rfl⟩ rfl rfl rfl rfl rfl (by kernel_rfl) Try.func5 (by kernel_rfl)
    (of_decide_eq_true (by kernel_rfl)) (by unfold Func.isWrapper; rw [if_neg (of_decide_eq_false (by kernel_rfl))]; exact ⟨rfl, rfl⟩)
    (fun os started H enc _ => lifted os started H enc)

/-- The statement. -/
theorem proved : Rows.KneadWordsSaid := over
end Go.Proofs.Ythjjpmcefiddmaa.kneadWords
