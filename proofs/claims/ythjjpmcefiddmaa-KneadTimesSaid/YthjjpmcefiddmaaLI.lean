/-
  The statement KneadTimesSaid: for all numbers of lumps and kinds Times and Rounds answer as the document says, each length divides the times, and a dough that is folded so often is as before, but never earlier; the known answers come out. No condition.
-/
import Derived.Test.YthjjpmcefiddmaaSG
import Derived.Test.YthjjpmcefiddmaaM
import Derived.Test.YthjjpmcefiddmaaP
namespace Go.Proofs.Ythjjpmcefiddmaa.kneadTimes
open Go.ChangeShapes Go.WideShapes Go.ChangeAt Go.RowKit Go.Joins

attribute [local go_sem] Oper.semAt_some

theorem copy_step (g0 : Nat) (l : List Int) (A : Option Addr) (n : Nat) (w : World) (hR : Ints w A l) (hn : l.length = n) (hpos : 0 < n) (hg : g0 = w.heap.size) :
    ∃ b1 b2 : Nat, A = some ⟨b1, b2, none⟩ ∧ (∀ w', Bel w w' → ∀ j u, (l.map fun x => Value.int .i64 x)[j]? = some u → w'.cell? ((⟨b1, b2, none⟩ : Addr).add j) = some u) ∧ (w.alloc (.cells #[] 3)).ownsRow g0 3 1 (.slice (some ⟨g0, 0, none⟩) 0 0) 0 [] := by
  subst hg
  obtain ⟨b1, b2, rfl, hbl1, hnw⟩ := hR.news (by intro e; rw [e] at hn; simp at hn; omega)
  refine ⟨b1, b2, rfl, fun w' hb' j u hj => ?_, World.ownsRow_lit w #[] 0 (Nat.le_refl _) (by unfold maxLen; omega) rfl⟩
  have := hnw j u hj
  rw [Go.Addr.add_mid] at this ⊢
  rw [hb'.use.1 _ _ hbl1]
  exact this
theorem fold_back {h k t : Nat} (hk : k ≤ 1) : foldL h (rep t k) (numL (2 * h)) = numL (2 * h) ↔ tmB h k t = true := by
  rw [tmB_iff hk]
  constructor
  · intro e q hq
    have h1 := fold_num h (rep t k) hq
    rw [e, numL_get hq] at h1
    injection h1 with h1
    omega
  · intro e
    exact byF_id (numL_len _) e
set_option maxRecDepth 100000 in
set_option maxHeartbeats 8000000 in
theorem walk (lumps kind : Int) (w : World) :
    Calls Try.prog 8 #[.int .i64 lumps, .int .i64 kind] w fun e w' => e = .returned (.bool true) ∧ Bel w w' := by
  by_cases hE : eK lumps kind = 0
  · obtain ⟨⟨h, h1, h16, hL⟩, k, hk, hK⟩ := eK_zero hE
    obtain ⟨-, hsum, hall⟩ := rounds_facts h1 h16 hk
    obtain ⟨hT1, hT40⟩ := timesN_ok h1 h16 hk
    have hTpos : 1 ≤ timesN h k := by unfold timesN; omega
    have HFIN := Lib.hid ((fold_back hk).2 hT1)
    have HMIN : Hid (∀ t, 1 ≤ t → t < timesN h k → decide (foldL h (rep t k) (numL (2 * h)) = numL (2 * h)) = false) := fun t a b => decide_eq_false fun e => by
      have := (fold_back hk).1 e
      rw [timesN_min a b (by omega)] at this
      cases this
    obtain ⟨R, hR⟩ : ∃ R, R = refR h k (2 * h) := ⟨_, rfl⟩
    have hRl : R.length ≤ 1024 := by
      rw [hR]
      have h5 := refR_len h k (2 * h)
      have h6 : 2 * h * (2 * h) ≤ 32 * (2 * h) := Nat.mul_le_mul_right (2 * h) (by omega)
      omega
    obtain ⟨T, hT⟩ : ∃ T, T = timesN h k := ⟨_, rfl⟩
    rw [← hR] at hsum hall
    rw [← hT] at hall hT40 hTpos HFIN HMIN
    have HR := Lib.hid hR; have HT := Lib.hid hT
    have HALL := Lib.hid hall
    have HSUM := Lib.hid (show sumI R = lumps by rw [hL]; exact hsum)
    have HBD : Hid (∀ x ∈ R, 0 ≤ x ∧ x ≤ 100) := fun x hx => by have := hall x hx; omega
    have HRL := Lib.hid hRl
    have HLq := Lib.hid hL; have HKq := Lib.hid hK
    have HLL := Lib.hid (show lumps = 2 * (h : Int) by omega)
    have HDW := Lib.hid (show eDW ((2 * h : Nat) : Int) [kind] = 0 by
      unfold eDW
      rw [if_pos (eD_half h1 h16)]
      exact eW_ok (by simp) (fun v hv => by simp at hv; subst hv; omega))
    have HREP : Hid (∀ q l, byF h (unW h [kind]) (foldL h (rep q k) l) = foldL h (rep (q + 1) k) l) := fun q l => by
      rw [rep_succ, foldL_app, hK]; rfl
    have hlum : (lumps != lumps) = false := by simp
    have hTi40 : (T : Int) ≤ 40 := by omega
    have e1 : ((T : Int) != (T : Int)) = false := by simp
    obtain ⟨rn, hrn⟩ : ∃ rn, rn = R.length := ⟨_, rfl⟩
    have HRN := Lib.hid hrn
    clear hE hL hK hR hT hall hsum hT1 hRl hrn
    go_enter Try.func8, Try.ntmps8
    go_wp2_with fail
    rw [HLq.out, HKq.out]
    refine (rtimes_ok h k _ h1 h16 hk).mono ?_
    rintro e w1 ⟨rfl, hw⟩
    subst hw
    rw [← HLq.out, ← HKq.out, ← HT.out]
    go_wp2_with fail
    rw [HLq.out, HKq.out]
    refine (rrounds_ok h k _ h1 h16 hk).mono ?_
    rintro e w2 ⟨A2, n2, c2, rfl, hn2, hb2, hI2⟩
    rw [← HLq.out, ← HKq.out]
    rw [← HR.out] at hn2 hI2
    have HN2 := Lib.hid hn2
    clear hn2
    go_wp2_with fail
    rw [HLq.out, HKq.out]
    refine (times_ok h k _ h1 h16 hk).mono ?_
    rintro e w3 ⟨rfl, hb3⟩
    rw [← HLq.out, ← HKq.out, ← HT.out]
    have hb13 := hb2.trans hb3
    go_wp2_with fail
    rw [HLq.out, HKq.out]
    refine (rounds_ok h k _ h1 h16 hk).mono ?_
    rintro e w4 ⟨A4, n4, c4, rfl, hn4, hb4, hI4⟩
    rw [← HLq.out, ← HKq.out]
    rw [← HR.out] at hn4 hI4
    have HN4 := Lib.hid hn4
    have hb14 := hb13.trans hb4
    have hn4m : n4 ≤ maxLen := by rw [hn4]; have := HRL.out; unfold maxLen; omega
    have hn4i : (n4 : Int) ≤ 1024 := by rw [hn4]; have := HRL.out; omega
    have hn4k : n4 ≤ 2000 := by rw [hn4]; have := HRL.out; omega
    clear hn4
    go_wp2_with fail
    refine (sameInts_any A4 A2 n4 c4 n2 c2 R _ hI4 (hI2.bel (hb3.trans hb4)) HN4.out.symm HN2.out.symm hn4m).mono ?_
    rintro e w5 ⟨rfl, hb5⟩
    have hI5 := hI4.bel hb5
    have hb15 := hb14.trans hb5
    clear hI2 hI4
    go_wp2_with fail
    refine (sumL_any A4 n4 c4 R _ hI5 HN4.out.symm hn4k HBD.out).mono ?_
    rintro e wx ⟨rfl, hw⟩
    subst hw
    rw [HSUM.out]
    go_wp2
    go_loopw [13] (fun iv wr => ∃ i : Nat, i ≤ n4 ∧ iv = .int .i64 (i : Int) ∧ Bel w5 wr) (fun iv _ => n4 - (intOf iv).toNat)
    case atStart => exact ⟨0, Nat.zero_le _, rfl, Bel.refl _⟩
    case round =>
      obtain ⟨i, hi, rfl, hb⟩ := hrel
      by_cases hlt : i < n4
      · have hii : (i : Int) < (n4 : Int) := by omega
        obtain ⟨b, o, x, rfl, hbl, hg, hc⟩ := (hI5.bel hb).at_ (k := i) (by rw [← HN4.out]; exact hlt)
        obtain ⟨x1, x2, x3⟩ := HALL.out x (List.mem_of_getElem? hg)
        have hx1 : ¬ x < 1 := by omega
        have hx0 : ¬ x = 0 := by omega
        have hm1 : Int.tmod (T : Int) x = 0 := by rw [Int.tmod_eq_emod_of_nonneg (by omega)]; exact x3
        clear hg
        go_wp2
        go_roundw
        case rel => exact ⟨i + 1, by omega, by go_num, by (repeat (first | exact Bel.refl _ | assumption | refine Bel.drew ?_ | refine Bel.drewN ?_ _ | refine Bel.alloc ?_ _ | refine Bel.setCell ?_ (by first | omega | (simp; done) | (simp; omega) | (simp at *; omega)) _ | refine Bel.trans ?_ (by assumption)))⟩
        case measure => simp [intOf]; omega
      · obtain rfl : i = n4 := by omega
        have hb1r := hb15.trans hb
        clear hI5
        go_wp2_with fail
        rw [HLq.out]
        refine (numbers_any (2 * h) _ (by omega)).mono ?_
        rintro e w6 ⟨v6, rfl, hO6, hb6⟩
        rw [← HLq.out]
        obtain ⟨A6, n6, c6, rfl, hn6, hI6⟩ := hO6.form
        rw [numL_len] at hn6
        subst hn6
        have hb16 := hb1r.trans hb6
        clear hO6
        go_wp2
        go_loopw [14, 15] (fun v iv wq => ∃ q : Nat, q ≤ T ∧ iv = .int .i64 (q : Int) ∧ Bel w6 wq ∧ ∃ A' c', v = .slice A' (2 * h) c' ∧ Ints wq A' (foldL h (rep q k) (numL (2 * h)))) (fun _ iv _ => T - (intOf iv).toNat)
        case atStart => exact ⟨0, Nat.zero_le _, rfl, Bel.refl _, A6, c6, rfl, by rw [show rep 0 k = [] from rfl, foldL_nil (numL_len _)]; exact hI6⟩
        case round =>
          clear hI6
          obtain ⟨q, hq, rfl, hbq, A', c', rfl, hI⟩ := hrel
          by_cases hlq : q < T
          · have hqi : (q : Int) < (T : Int) := by omega
            obtain ⟨i0, hi0, hz0, hz1, hz2⟩ := info_parts info1I
            have hlenq : (2 * (h : Int) != lumps) = false := by rw [HLL.out]; simp
            have HD := HMIN.out (q + 1) (by omega)
            go_wp2_with fail
            refine (fold_ok h A' c' _ (some ⟨_, 0, none⟩) 1 1 [kind] _ (hI.bel ((Bel.refl _).alloc _)) (foldL_len _ _ _) (one_int (by go_simp) (by simp)) rfl HDW.out).mono ?_
            rintro e w7 ⟨A7, c7, rfl, hc7, hb7, hI7⟩
            rw [HREP.out] at hI7
            have hbq7 : Bel wr w7 := ((Bel.refl _).alloc _).trans hb7
            obtain ⟨l7, hl7⟩ : ∃ l7, l7 = foldL h (rep (q + 1) k) (numL (2 * h)) := ⟨_, rfl⟩
            have hl7n : l7.length = 2 * h := by rw [hl7]; exact foldL_len _ _ _
            rw [← hl7] at hI7 HD
            have HL7 := Lib.hid hl7; have HL7N := Lib.hid hl7n
            have hX3 := Lib.hid (show 0 + 2 * h ≤ maxLen by unfold maxLen; omega)
            have hX4 := Lib.hid (show (0 + 2 * h) * 8 ≤ 140737488355328 by omega)
            have hpos : 0 < 2 * h := by omega
            clear hl7 hl7n hI hb7
            by_cases hnT : q + 1 < T
            · have hnTi : (q : Int) + 1 < (T : Int) := by omega
              have HDD := Lib.hid (HD hnT)
              clear HD
              go_wp2_with fail
              rw [HLq.out]
              refine (numbers_any (2 * h) _ (by omega)).mono ?_
              rintro e w8 ⟨v8, rfl, hO8, hb8⟩
              rw [← HLq.out]
              obtain ⟨A8, n8, c8, rfl, hn8, hI8⟩ := hO8.form
              rw [numL_len] at hn8
              subst hn8
              clear hO8
              go_wp2_with fail
              refine (sameInts_all A7 A8 (2 * h) c7 (2 * h) c8 l7 (numL (2 * h)) _ (hI7.bel hb8) hI8 HL7N.out (numL_len _) (by unfold maxLen; omega)).mono ?_
              rintro e w9 ⟨rfl, hb9⟩
              rw [HDD.out]
              have hb79 := hb8.trans hb9
              obtain ⟨b1, b2, hA7, hnews, hlit⟩ := copy_step w9.heap.size _ A7 (2 * h) w9 (hI7.bel hb79) HL7N.out hpos rfl
              subst hA7
              have Hnews := Lib.hid hnews; have Hlit := Lib.hid hlit
              clear hnews hlit hI8
              go_wp2_with (at_builtin; go_loud (refine wpList_append_lies _ rfl (.tmp 122) (.tmp 123) 22 rfl w9.heap.size 3 i0 _ 1 8 Try.underlying22 hi0 hz0 hz1 hz2 rfl (by decide) _ 0 [] (by rfl) Hlit.out ⟨b1, b2, none⟩ (2 * h) c7 (l7.map fun x => .int .i64 x) (by rfl) (by rw [List.length_map, HL7N.out, Nat.mul_one]) (Hnews.out _ (by (repeat (first | exact Bel.refl _ | assumption | refine Bel.drew ?_ | refine Bel.drewN ?_ _ | refine Bel.alloc ?_ _ | refine Bel.setCell ?_ (by first | omega | (simp; done) | (simp; omega) | (simp at *; omega)) _ | refine Bel.trans ?_ (by assumption))))) (one_map _) hpos hX3.out hX4.out (by simp) _ rfl ?_); intro g7 cap7 wz; rw [show 0 + 2 * h = 2 * h from Nat.zero_add _, List.nil_append]; intro hownz hgrz hatz hltz)
              have hbz := grown_own (w := w9) ((Bel.refl w9).alloc _) Hlit.out (Nat.le_refl _) hgrz
              have hIz := ints_row hownz
              clear hownz hgrz hatz hltz
              go_roundw
              case rel => exact ⟨q + 1, by omega, by go_num, ((hbq.trans hbq7).trans hb79).trans hbz, _, _, rfl, by rw [← HL7.out]; exact hIz⟩
              case measure => simp [intOf]; omega
            · have hnTi : ¬ (q : Int) + 1 < (T : Int) := by omega
              clear HD
              obtain ⟨b1, b2, hA7, hnews, hlit⟩ := copy_step w7.heap.size _ A7 (2 * h) w7 hI7 HL7N.out hpos rfl
              subst hA7
              have Hnews := Lib.hid hnews; have Hlit := Lib.hid hlit
              clear hnews hlit
              go_wp2_with (at_builtin; go_loud (refine wpList_append_lies _ rfl (.tmp 122) (.tmp 123) 22 rfl w7.heap.size 3 i0 _ 1 8 Try.underlying22 hi0 hz0 hz1 hz2 rfl (by decide) _ 0 [] (by rfl) Hlit.out ⟨b1, b2, none⟩ (2 * h) c7 (l7.map fun x => .int .i64 x) (by rfl) (by rw [List.length_map, HL7N.out, Nat.mul_one]) (Hnews.out _ (by (repeat (first | exact Bel.refl _ | assumption | refine Bel.drew ?_ | refine Bel.drewN ?_ _ | refine Bel.alloc ?_ _ | refine Bel.setCell ?_ (by first | omega | (simp; done) | (simp; omega) | (simp at *; omega)) _ | refine Bel.trans ?_ (by assumption))))) (one_map _) hpos hX3.out hX4.out (by simp) _ rfl ?_); intro g7 cap7 wz; rw [show 0 + 2 * h = 2 * h from Nat.zero_add _, List.nil_append]; intro hownz hgrz hatz hltz)
              have hbz := grown_own (w := w7) ((Bel.refl w7).alloc _) Hlit.out (Nat.le_refl _) hgrz
              have hIz := ints_row hownz
              clear hownz hgrz hatz hltz
              go_roundw
              case rel => exact ⟨q + 1, by omega, by go_num, (hbq.trans hbq7).trans hbz, _, _, rfl, by rw [← HL7.out]; exact hIz⟩
              case measure => simp [intOf]; omega
          · obtain rfl : q = T := by omega
            rw [HFIN.out] at hI
            have hb1q := hb16.trans hbq
            go_wp2_with fail
            rw [HLq.out]
            refine (numbers_any (2 * h) _ (by omega)).mono ?_
            rintro e w8 ⟨v8, rfl, hO8, hb8⟩
            rw [← HLq.out]
            obtain ⟨A8, n8, c8, rfl, hn8, hI8⟩ := hO8.form
            rw [numL_len] at hn8
            subst hn8
            clear hO8
            go_wp2_with fail
            refine (sameInts_any A' A8 (2 * h) c' (2 * h) c8 (numL (2 * h)) _ (hI.bel hb8) hI8 (numL_len _) (numL_len _) (by unfold maxLen; omega)).mono ?_
            rintro e w9 ⟨rfl, hb9⟩
            go_wp2_with fail
            refine (known_any _).mono ?_
            rintro e wy ⟨rfl, hby⟩
            go_wp2
            go_ret
            exact ⟨rfl, ((hb1q.trans hb8).trans hb9).trans hby⟩
  · have HE := Lib.hid hE
    clear hE
    go_enter Try.func8, Try.ntmps8
    go_wp2_with fail
    refine (rtimes_err lumps kind _ HE.out).mono ?_
    rintro e w1 ⟨rfl, hw⟩
    subst hw
    go_wp2_with fail
    refine (rrounds_err lumps kind _ HE.out).mono ?_
    rintro e w1 ⟨rfl, hw⟩
    subst hw
    go_wp2_with fail
    refine (times_err lumps kind _ HE.out).mono ?_
    rintro e w1 ⟨rfl, hw⟩
    subst hw
    go_wp2_with fail
    refine (rounds_err lumps kind _ HE.out).mono ?_
    rintro e w1 ⟨rfl, hw⟩
    subst hw
    go_wp2_with fail
    refine (sameInts_any none none 0 0 0 0 [] _ (.inl rfl) (.inl rfl) rfl rfl (Nat.zero_le _)).mono ?_
    rintro e w2 ⟨rfl, hb2⟩
    go_wp2_with fail
    refine (known_any _).mono ?_
    rintro e w3 ⟨rfl, hb3⟩
    go_wp2
    go_ret
    exact ⟨rfl, hb2.trans hb3⟩



set_option maxRecDepth 100000 in
theorem lifted (os : Os) (started : os.Started) (H : Type) (enc : TypeId × Value → H) :
    ReturnsInHanded {} Try.checked os 8 .any (Rows.kneadTimesSpec.pre6 enc Try.prog Try.f8 Rows.kneadTimesRow.domain false) (Rows.kneadTimesSpec.post enc Try.prog Try.f8 false true false false) := by
  refine returnsInHanded_of_change_sized (C := Try.checked) own started (by kernel_rfl) Try.func8
    (ChangeSpec.witness6 (enc := enc) (C := Try.checked) false ⟨#[], #[.int .i64 0, .int .i64 0], []⟩ 8 (by kernel_rfl) (by kernel_rfl) (by kernel_rfl) (by kernel_rfl)) ?_
  intro W base args ds gs before hval0 hW hcnd hsz0 _
  have hval : ∀ (j : Nat) t v, Try.f8.params[j]? = some t → args[j]? = some v → Value.okWide Try.prog W .any base t v := hval0
  have hsz : (DataW.weightsEach Try.prog (Try.f8.params.toList ++ Rows.kneadTimesSpec.plain.varTypes Try.prog) (ds ++ gs)).all (· ≤ reachBytes) = true := hsz0
  have hW' := hW
  obtain ⟨p, q, hA0, hV, rfl, hfz, hnd⟩ := hW
  have hA : DataW.TrodAll enc Try.prog W 0 (fun _ => true) true Try.f8.params.toList args.toList ds p := hA0
  rw [Try.params8] at hA hval hsz
  obtain ⟨v0, vs0, d0, ds0, p0, q0, hargs, rfl, rfl, h0, r0⟩ := trodAll_cons hA
  obtain ⟨v1, vs1, d1, ds1, p1, q1, rfl, rfl, rfl, h1, r1⟩ := trodAll_cons r0
  obtain ⟨rfl, rfl, rfl⟩ := trodAll_nil r1
  obtain rfl : args = #[v0, v1] := by cases args; simp_all
  obtain ⟨rfl, rfl⟩ := trodVars_none hV
  have k0 := h0
  have lt0 : ∀ x ∈ p0, x.block < W.heap.size := by obtain ⟨m, hm⟩ := k0; exact DataW.trod_lt m _ _ _ hm
  have k1 := h1
  have lt1 : ∀ x ∈ p1, x.block < W.heap.size := by obtain ⟨m, hm⟩ := k1; exact DataW.trod_lt m _ _ _ hm
  obtain ⟨x0, rfl, rfl, rfl, w0⟩ := open_int Try.underlying3 (hval 0 3 v0 rfl rfl) h0
  obtain ⟨x1, rfl, rfl, rfl, w1⟩ := open_int Try.underlying3 (hval 1 3 v1 rfl rfl) h1
  clear hA0 hval0
  refine (walk x0 x1 W ).mono fun e W' ⟨he, bel⟩ => ?_
  subst he
  exact ⟨_, rfl, _, _, _, [], _, [], hW', trodAll_mk1 (shut_bool Try.underlying4 _), trodAll_cons_mk (shut_int Try.underlying3 w0) (trodAll_cons_mk (shut_int Try.underlying3 w1) (trodAll_mk0)), rfl, Below.frame bel _, fun h => by cases h⟩

theorem over : Rows.kneadTimesRow.holds Try.pinned (OpenSpec.ofChange Rows.kneadTimesSpec) :=
  OpenClaim.holds_of_wide 8 Try.f8 rfl rfl rfl rfl rfl rfl rfl ⟨rfl, rfl, rfl, rfl, rfl⟩ rfl rfl rfl rfl rfl (by kernel_rfl) Try.func8 (by kernel_rfl)
    (of_decide_eq_true (by kernel_rfl)) (by unfold Func.isWrapper; rw [if_neg (of_decide_eq_false (by kernel_rfl))]; exact ⟨rfl, rfl⟩)
    (fun os started H enc _ => lifted os started H enc)

/-- The statement. -/
theorem proved : Rows.KneadTimesSaid := over
end Go.Proofs.Ythjjpmcefiddmaa.kneadTimes
