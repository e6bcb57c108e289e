/-
  The statement FeudSetsSaid: for all shops, paints and sets Validate, Feuds, IsCalm and IsBitter answer as the document says, the lists stay as they were in their spare cells, too, and the known answers come out. No condition.
-/
import Derived.Test.YtcndmfkbfimllaaOP
namespace Go.Proofs.Ytcndmfkbfimllaa.feudSets
open Go.ChangeShapes Go.WideShapes Go.ChangeAt Go.RowKit Go.Joins

set_option maxRecDepth 100000 in
set_option maxHeartbeats 40000000 in
theorem inner (p : Int) (A : Option Addr) (n c : Nat) (F : List (Int × Int)) (a : Int) (B : Option Addr) (m d : Nat) (l : List Int) (w : World) (hR : Prs w A F) (hn : F.length = n) (hI : Ints w B l) (hm : l.length = m) (hmd : m ≤ d) :
    Calls Try.prog 19 #[.agg #[.int .i64 p, .slice A n c], .int .i64 a, .slice B m d] w fun e w' => e = .returned (.bool true) ∧ Bel w w' := by
  have Hn := Lib.hid hn
  have Hm := Lib.hid hm
  clear hn hm
  have Held := Lib.hid (fun w' (h : Bel (w.alloc (.cells #[.int .i64 p, .slice A n c] 24)) w') => pair_box h)
  have hb0 : Bel w (w.alloc (.cells #[.int .i64 p, .slice A n c] 24)) := (Bel.refl w).alloc _
  by_cases h60 : 60 < n
  · have HL := Lib.hid (decide_eq_true h60)
    go_enter Try.func19, Try.ntmps19
    go_wp2_with fail
    refine (long_any p A n c _).mono ?_
    rintro e w1 ⟨rfl, hb1⟩
    rw [HL.out]
    go_wp2_with fail
    refine (known_any _).mono ?_
    rintro e w2 ⟨rfl, hb2⟩
    go_wp2
    go_ret
    exact ⟨rfl, by (repeat (first | exact Bel.refl _ | assumption | refine Bel.drew ?_ | refine Bel.drewN ?_ _ | refine Bel.alloc ?_ _ | refine Bel.setCell ?_ (by first | omega | (simp; done) | (simp; omega) | (simp at *; omega)) _ | refine Bel.trans ?_ (by assumption)))⟩
  · have HL := Lib.hid (decide_eq_false h60)
    have hn9 : n ≤ 900 := by omega
    by_cases h40 : 40 < m
    · have HM := Lib.hid (decide_eq_true h40)
      clear h60 h40
      go_enter Try.func19, Try.ntmps19
      go_wp2_with fail
      refine (long_any p A n c _).mono ?_
      rintro e w1 ⟨rfl, hb1⟩
      rw [HL.out]
      go_wp2_with fail
      refine (many_any B m d _).mono ?_
      rintro e w2 ⟨rfl, rfl⟩
      rw [HM.out]
      go_wp2_with fail
      refine (known_any _).mono ?_
      rintro e w2 ⟨rfl, hb2⟩
      go_wp2
      go_ret
      exact ⟨rfl, by (repeat (first | exact Bel.refl _ | assumption | refine Bel.drew ?_ | refine Bel.drewN ?_ _ | refine Bel.alloc ?_ _ | refine Bel.setCell ?_ (by first | omega | (simp; done) | (simp; omega) | (simp at *; omega)) _ | refine Bel.trans ?_ (by assumption)))⟩
    · have HM := Lib.hid (decide_eq_false h40)
      have hm1 : m ≤ 100 := by omega
      obtain ⟨fl, hfl⟩ : ∃ fl, fl = foesV p F a := ⟨_, rfl⟩
      have hfl7 := foesV_len p F a
      rw [← hfl] at hfl7
      have HFL := Lib.hid hfl
      obtain ⟨eP, heP⟩ : ∃ eP, eP = errP p F a := ⟨_, rfl⟩
      obtain ⟨eT, heT⟩ : ∃ eT, eT = errT p F l := ⟨_, rfl⟩
      obtain ⟨eF, heF⟩ : ∃ eF, eF = errF p F := ⟨_, rfl⟩
      obtain ⟨vC, hvC⟩ : ∃ vC, vC = isV p F l false := ⟨_, rfl⟩
      obtain ⟨vB, hvB⟩ : ∃ vB, vB = isV p F l true := ⟨_, rfl⟩
      have HEP := Lib.hid heP; have HET := Lib.hid heT; have HEF := Lib.hid heF; have HVC := Lib.hid hvC; have HVB := Lib.hid hvB
      clear h60 h40 hfl heP heT heF hvC hvB
      go_enter Try.func19, Try.ntmps19
      go_wp2_with fail
      refine (long_any p A n c _).mono ?_
      rintro e w1 ⟨rfl, hb1⟩
      rw [HL.out]
      go_wp2_with fail
      refine (many_any B m d _).mono ?_
      rintro e w2 ⟨rfl, rfl⟩
      rw [HM.out]
      obtain ⟨c0, c1⟩ := Held.out _ hb1
      go_wp2_with fail
      refine (rFeuds_any p A n c F a _ (hR.bel (hb0.trans hb1)) Hn.out hn9).mono ?_
      rintro e w2 ⟨A2, n2, c2, rfl, hn2, hb2, hI2⟩
      rw [← HFL.out] at hn2 hI2
      rw [← HEP.out]
      have HN2 := Lib.hid hn2.symm
      clear c0 c1 hn2
      have hB2 := hb1.trans hb2
      obtain ⟨c0, c1⟩ := Held.out _ hB2
      go_wp2_with fail
      refine (rIsCalm_any p A n c F B m d l _ (hR.bel (hb0.trans hB2)) Hn.out hn9 (hI.bel (hb0.trans hB2)) Hm.out hm1 hmd).mono ?_
      rintro e w3 ⟨rfl, hb3⟩
      rw [← HVC.out, ← HET.out]
      clear c0 c1
      have hB3 := hB2.trans hb3
      obtain ⟨c0, c1⟩ := Held.out _ hB3
      go_wp2_with fail
      refine (rIsBitter_any p A n c F B m d l _ (hR.bel (hb0.trans hB3)) Hn.out hn9 (hI.bel (hb0.trans hB3)) Hm.out hm1 hmd).mono ?_
      rintro e w4 ⟨rfl, hb4⟩
      rw [← HVB.out, ← HET.out]
      clear c0 c1
      have hB4 := hB3.trans hb4
      obtain ⟨c0, c1⟩ := Held.out _ hB4
      go_wp2_with fail
      refine (fFeuds_any p A n c F a _ (hR.bel (hb0.trans hB4)) Hn.out hn9).mono ?_
      rintro e w5 ⟨A5, n5, c5, rfl, hn5, hb5, hI5⟩
      rw [← HFL.out] at hn5 hI5
      rw [← HEP.out]
      have HN5 := Lib.hid hn5.symm
      clear c0 c1 hn5
      have hB5 := hB4.trans hb5
      obtain ⟨c0, c1⟩ := Held.out _ hB5
      go_wp2_with fail
      refine (fIsCalm_any p A n c F B m d l _ (hR.bel (hb0.trans hB5)) Hn.out hn9 (hI.bel (hb0.trans hB5)) Hm.out hm1 hmd).mono ?_
      rintro e w6 ⟨rfl, hb6⟩
      rw [← HVC.out, ← HET.out]
      clear c0 c1
      have hB6 := hB5.trans hb6
      obtain ⟨c0, c1⟩ := Held.out _ hB6
      go_wp2_with fail
      refine (fIsBitter_any p A n c F B m d l _ (hR.bel (hb0.trans hB6)) Hn.out hn9 (hI.bel (hb0.trans hB6)) Hm.out hm1 hmd).mono ?_
      rintro e w7 ⟨rfl, hb7⟩
      rw [← HVB.out, ← HET.out]
      clear c0 c1
      have hB7 := hB6.trans hb7
      obtain ⟨c0, c1⟩ := Held.out _ hB7
      have hI27 := hI2.bel (((((hb3.trans hb4).trans hb5).trans hb6).trans hb7))
      have hI57 := hI5.bel (hb6.trans hb7)
      have hn5m : n5 ≤ maxLen := by have := HN5.out; unfold maxLen; omega
      go_wp2
      go_region_held3 (fun w' => Bel w7 w' ∧ w'.cell? ⟨w.heap.size, 0, none⟩ = some (.int .i64 p) ∧ w'.cell? ⟨w.heap.size, 1, none⟩ = some (.slice A n c)) (exact ⟨by (repeat (first | exact Bel.refl _ | assumption | refine Bel.drew ?_ | refine Bel.drewN ?_ _ | refine Bel.alloc ?_ _ | refine Bel.setCell ?_ (by first | omega | (simp; done) | (simp; omega) | (simp at *; omega)) _ | refine Bel.trans ?_ (by assumption))), Held.out _ (by (repeat (first | exact Bel.refl _ | assumption | refine Bel.drew ?_ | refine Bel.drewN ?_ _ | refine Bel.alloc ?_ _ | refine Bel.setCell ?_ (by first | omega | (simp; done) | (simp; omega) | (simp at *; omega)) _ | refine Bel.trans ?_ (by assumption))))⟩)
        (first
          | (go_at_call 44; refine (validate_any p A n c F _ (hR.bel (hb0.trans (hB7.trans (by (repeat (first | exact Bel.refl _ | assumption | refine Bel.drew ?_ | refine Bel.drewN ?_ _ | refine Bel.alloc ?_ _ | refine Bel.setCell ?_ (by first | omega | (simp; done) | (simp; omega) | (simp at *; omega)) _ | refine Bel.trans ?_ (by assumption))))))) Hn.out hn9).mono ?_; rintro e w8 ⟨rfl, hb8⟩; rw [← HEF.out])
          | (go_at_call 45; refine (rValidate_any p A n c F _ (hR.bel (hb0.trans (hB7.trans (by (repeat (first | exact Bel.refl _ | assumption | refine Bel.drew ?_ | refine Bel.drewN ?_ _ | refine Bel.alloc ?_ _ | refine Bel.setCell ?_ (by first | omega | (simp; done) | (simp; omega) | (simp at *; omega)) _ | refine Bel.trans ?_ (by assumption))))))) Hn.out hn9).mono ?_; rintro e w9 ⟨rfl, hb9⟩; rw [← HEF.out])
          | (go_at_call 46; refine (sameInts_any A5 A2 n5 c5 n2 c2 fl _ (hI57.bel (by (repeat (first | exact Bel.refl _ | assumption | refine Bel.drew ?_ | refine Bel.drewN ?_ _ | refine Bel.alloc ?_ _ | refine Bel.setCell ?_ (by first | omega | (simp; done) | (simp; omega) | (simp at *; omega)) _ | refine Bel.trans ?_ (by assumption))))) (hI27.bel (by (repeat (first | exact Bel.refl _ | assumption | refine Bel.drew ?_ | refine Bel.drewN ?_ _ | refine Bel.alloc ?_ _ | refine Bel.setCell ?_ (by first | omega | (simp; done) | (simp; omega) | (simp at *; omega)) _ | refine Bel.trans ?_ (by assumption))))) HN5.out HN2.out hn5m).mono ?_; rintro e w10 ⟨rfl, hb10⟩)
          | (go_at_call 37; refine (known_any _).mono ?_; rintro e w11 ⟨rfl, hb11⟩))
      all_goals
        go_wp2
        go_ret
        exact ⟨rfl, by (repeat (first | exact Bel.refl _ | assumption | refine Bel.drew ?_ | refine Bel.drewN ?_ _ | refine Bel.alloc ?_ _ | refine Bel.setCell ?_ (by first | omega | (simp; done) | (simp; omega) | (simp at *; omega)) _ | refine Bel.trans ?_ (by assumption)))⟩

set_option maxRecDepth 100000 in
set_option maxHeartbeats 1000000 in
theorem walk (p : Int) (A : Option Addr) (n c : Nat) (zs : List (Int × Int)) (a : Int) (B : Option Addr) (m d : Nat) (ys : List Int) (w : World) (h : Arg2 w A n c zs) (k : ArgI w B m d ys) :
    Calls Try.prog 3 #[.agg #[.int .i64 p, .slice A n c], .int .i64 a, .slice B m d] w fun e w' => e = .returned (.bool true) ∧ Bel w w' := by
  obtain ⟨e1, e2, e3⟩ := h.els
  obtain ⟨f1, f2, f3⟩ := k.els
  have hc9 := (reachN_le h.reach (by omega)).1
  have hd9 := (reachN_le k.reach (by omega)).1
  have hmd := k.le
  have Held := Lib.hid (fun w' (h : Bel (w.alloc (.cells #[.int .i64 p, .slice A n c] 24)) w') => pair_box h)
  have hb0 : Bel w (w.alloc (.cells #[.int .i64 p, .slice A n c] 24)) := (Bel.refl w).alloc _
  go_enter Try.func3, Try.ntmps3
  go_wp2_with fail
  refine (keepFeuds_any A n c zs _ (h.prs.bel hb0) h.len h.le h.nil h.reach).mono ?_
  rintro e w1 ⟨A', n', c', rfl, hn', hb1, hr1⟩
  have HN := Lib.hid hn'; clear hn'
  go_wp2_with fail
  refine (keepInts_any B m d ys _ (k.ints.bel (hb0.trans hb1)) k.len k.le k.nil k.reach).mono ?_
  rintro e w2 ⟨B', m', d', rfl, hm', hb2, hr2, -⟩
  have HM := Lib.hid hm'; clear hm'
  have hB2 := hb1.trans hb2
  obtain ⟨c0, c1⟩ := Held.out _ hB2
  go_wp2_with fail
  refine (inner p A n c _ a B m d _ _ (e1.bel (hb0.trans hB2)) e2 (f1.bel (hb0.trans hB2)) f2 hmd).mono ?_
  rintro e w3 ⟨rfl, hb3⟩
  have hB3 := hB2.trans hb3
  clear c0 c1
  obtain ⟨c0, c1⟩ := Held.out _ hB3
  go_wp2_with fail
  refine (keptFeuds_any A' A n' c' n c zs _ (hr1.bel (hb2.trans hb3)) (h.prs.bel (hb0.trans hB3)) HN.out.symm h.len h.le h.nil hc9).mono ?_
  rintro e w4 ⟨rfl, hb4⟩
  have hB4 := hB3.trans hb4
  go_wp2_with fail
  refine (keptInts_any B' B m' d' m d ys _ (hr2.bel (hb3.trans hb4)) (k.ints.bel (hb0.trans hB4)) HM.out.symm k.len k.le k.nil hd9).mono ?_
  rintro e w5 ⟨rfl, hb5⟩
  go_wp2
  go_ret
  exact ⟨rfl, hb0.trans (hB4.trans hb5)⟩

set_option maxRecDepth 100000 in
theorem lifted (os : Os) (started : os.Started) (H : Type) (enc : TypeId × Value → H) :
    ReturnsInHanded {} Try.checked os 3 .any (Rows.feudSetsSpec.pre6 enc Try.prog Try.f3 Rows.feudSetsRow.domain false) (Rows.feudSetsSpec.post enc Try.prog Try.f3 false true false false) := by
  refine returnsInHanded_of_change_sized (C := Try.checked) own started (by kernel_rfl) Try.func3
    (ChangeSpec.witness6 (enc := enc) (C := Try.checked) false ⟨#[], #[.agg #[.int .i64 0, .slice none 0 0], .int .i64 0, .slice none 0 0], []⟩ 8 (by kernel_rfl) (by kernel_rfl) (by kernel_rfl) (by kernel_rfl)) ?_
  intro W base args ds gs before hval0 hW hcnd hsz0 _
  have hval : ∀ (j : Nat) t v, Try.f3.params[j]? = some t → args[j]? = some v → Value.okWide Try.prog W .any base t v := hval0
  have hsz : (DataW.weightsEach Try.prog (Try.f3.params.toList ++ Rows.feudSetsSpec.plain.varTypes Try.prog) (ds ++ gs)).all (· ≤ reachBytes) = true := hsz0
  have hW' := hW
  obtain ⟨p, q, hA0, hV, rfl, hfz, hnd⟩ := hW
  have hA : DataW.TrodAll enc Try.prog W 0 (fun _ => true) true Try.f3.params.toList args.toList ds p := hA0
  rw [Try.params3] at hA hval hsz
  obtain ⟨v0, vs0, d0, ds0, p0, q0, hargs, rfl, rfl, h0, r0⟩ := trodAll_cons hA
  obtain ⟨v1, vs1, d1, ds1, p1, q1, rfl, rfl, rfl, h1, r1⟩ := trodAll_cons r0
  obtain ⟨v2, vs2, d2, ds2, p2, q2, rfl, rfl, rfl, h2, r2⟩ := trodAll_cons r1
  obtain ⟨rfl, rfl, rfl⟩ := trodAll_nil r2
  obtain rfl : args = #[v0, v1, v2] := by cases args; simp_all
  obtain ⟨rfl, rfl⟩ := trodVars_none hV
  have k0 := h0
  have lt0 : ∀ x ∈ p0, x.block < W.heap.size := by obtain ⟨m, hm⟩ := k0; exact DataW.trod_lt m _ _ _ hm
  have k1 := h1
  have lt1 : ∀ x ∈ p1, x.block < W.heap.size := by obtain ⟨m, hm⟩ := k1; exact DataW.trod_lt m _ _ _ hm
  have k2 := h2
  have lt2 : ∀ x ∈ p2, x.block < W.heap.size := by obtain ⟨m, hm⟩ := k2; exact DataW.trod_lt m _ _ _ hm
  have hr0 : ∀ k ∈ d0.weights Try.prog 24, k ≤ reachN := fun k hk => by rw [← reach_eq]; simpa using List.all_eq_true.1 hsz k (DataW.weights_mem_each (j := 0) rfl rfl k hk)
  obtain ⟨x0, A0, n0, c0, zs0, rfl, a0⟩ := open_shop (hval 0 24 v0 rfl rfl) h0 hr0
  obtain ⟨x1, rfl, rfl, rfl, w1⟩ := open_int Try.underlying3 (hval 1 3 v1 rfl rfl) h1
  have hr2 : ∀ k ∈ d2.weights Try.prog 25, k ≤ reachN := fun k hk => by rw [← reach_eq]; simpa using List.all_eq_true.1 hsz k (DataW.weights_mem_each (j := 2) rfl rfl k hk)
  obtain ⟨A2, n2, c2, zs2, rfl, a2⟩ := open_argI (hval 2 25 v2 rfl rfl) h2 hr2
  clear hA0 hval0
  refine (walk x0 A0 n0 c0 zs0 x1 A2 n2 c2 zs2 W a0 a2).mono fun e W' ⟨he, bel⟩ => ?_
  subst he
  exact ⟨_, rfl, _, _, _, [], _, [], hW', trodAll_mk1 (shut_bool Try.underlying4 _), trodAll_cons_mk (Below.trod laidOut (by kernel_rfl) (of_decide_eq_true (by kernel_rfl)) k0 bel lt0) (trodAll_cons_mk (shut_int Try.underlying3 w1) (trodAll_cons_mk (Below.trod laidOut (by kernel_rfl) (of_decide_eq_true (by kernel_rfl)) k2 bel lt2) (trodAll_mk0))), rfl, Below.frame bel _, fun h => by cases h⟩

theorem over : Rows.feudSetsRow.holds Try.pinned (OpenSpec.ofChange Rows.feudSetsSpec) :=
  OpenClaim.holds_of_wide 3 Try.f3 rfl rfl rfl rfl rfl rfl rfl ⟨rfl, rfl, rfl, rfl, rfl⟩ rfl rfl rfl rfl rfl (by kernel_rfl) Try.func3 (by kernel_rfl)
    (of_decide_eq_true (by kernel_rfl)) (by unfold Func.isWrapper; rw [if_neg (of_decide_eq_false (by kernel_rfl))]; exact ⟨rfl, rfl⟩)
    (fun os started H enc _ => lifted os started H enc)

/-- The statement. -/
theorem proved : Rows.FeudSetsSaid := over
end Go.Proofs.Ytcndmfkbfimllaa.feudSets
