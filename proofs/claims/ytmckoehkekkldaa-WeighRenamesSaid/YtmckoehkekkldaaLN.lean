/-
  The statement WeighRenamesSaid: for all numbers of lots, plans and lists of new numbers Rename answers as the document says, and a plan with new numbers tells exactly if the plan does, the lists stay as they were in their spare cells, too, and the known answers come out. No condition.
-/
import Derived.Test.YtmckoehkekkldaaBJ
import Derived.Test.YtmckoehkekkldaaAJ
import Derived.Test.YtmckoehkekkldaaP
import Derived.Test.YtmckoehkekkldaaS
import Derived.Test.YtmckoehkekkldaaZ
namespace Go.Proofs.Ytmckoehkekkldaa.weighRenames
open Go.ChangeShapes Go.WideShapes Go.ChangeAt Go.RowKit Go.Joins

set_option maxRecDepth 100000 in
set_option maxHeartbeats 1000000 in
theorem inner (n : Int) (A : Option Addr) (m c : Nat) (P : List Wg) (B : Option Addr) (q d : Nat) (to : List Int) (w : World) (hR : Plan 0 w A P) (hm : P.length = m) (hmax : m ≤ maxLen) (hI : Ints w B to) (hq : to.length = q) (hqx : q ≤ maxLen) :
    Calls Try.prog 39 #[.int .i64 n, .slice A m c, .slice B q d] w fun e w' => e = .returned (.bool true) ∧ Bel w w' := by
  have Hm := Lib.hid hm; have Hq := Lib.hid hq
  clear hm hq
  by_cases h100 : q > 100
  · have hi100 : (q : Int) > 100 := by omega
    go_enter Try.func39, Try.ntmps39
    go_wp2_with fail
    refine (long_any 0 A m c P _ hR Hm.out hmax).mono ?_
    rintro e w1 ⟨⟨bl, rfl⟩, hw1⟩
    subst hw1
    cases bl with
    | true =>
      go_wp2_with fail
      refine (known_any _).mono ?_
      rintro e w9 ⟨rfl, hb9⟩
      go_wp2
      go_ret
      exact ⟨rfl, hb9⟩
    | false =>
      go_wp2_with fail
      refine (known_any _).mono ?_
      rintro e w9 ⟨rfl, hb9⟩
      go_wp2
      go_ret
      exact ⟨rfl, hb9⟩
  · have hi100 : ¬ (q : Int) > 100 := by omega
    go_enter Try.func39, Try.ntmps39
    go_wp2_with fail
    refine (long_any 0 A m c P _ hR Hm.out hmax).mono ?_
    rintro e w1 ⟨⟨bl, rfl⟩, hw1⟩
    subst hw1
    cases bl with
    | true =>
      go_wp2_with fail
      refine (known_any _).mono ?_
      rintro e w9 ⟨rfl, hb9⟩
      go_wp2
      go_ret
      exact ⟨rfl, hb9⟩
    | false =>
      by_cases hz : errR n P to = 0
      · have h0 : errV n P = 0 := by
          unfold errR at hz
          split at hz
          · assumption
          · exact hz
        obtain ⟨k, rfl, hG⟩ := errV_good h0
        have hN : Renum k to := by
          unfold errR at hz
          rw [if_pos h0] at hz
          split at hz
          · simpa using (by assumption)
          · cases hz
        obtain rfl : q = k := by rw [← Hq.out]; exact hN.len
        have HZ := Lib.hid hz; have HG := Lib.hid hG; have HN := Lib.hid hN
        have HT := Lib.hid (tells_ren hG hN)
        obtain ⟨tv, htv⟩ : ∃ x, x = tellB P q := ⟨_, rfl⟩
        have HTV := Lib.hid htv
        have hm3 := hG.few
        clear hz h0 hG hN htv
        go_wp2_with fail
        refine (rRename_ok 0 q A m c P B d to _ hR Hm.out HG.out hI HN.out).mono ?_
        rintro e w2 ⟨A2, n2, c2, rfl, hn2, hb2, hP2⟩
        rw [if_pos HZ.out] at hn2 hP2
        rw [HZ.out]
        have HN2 := Lib.hid hn2; have HP2 := Lib.hid hP2
        clear hn2 hP2
        go_wp2_with fail
        refine (rename_ok 0 q A m c P B d to _ (hR.bel hb2) Hm.out HG.out (hI.bel hb2) HN.out).mono ?_
        rintro e w3 ⟨b3, rfl, hb3, hP3⟩
        have HP3 := Lib.hid hP3
        clear hP3
        go_wp2_with fail
        refine (same_any _ _ (some ⟨b3, 0, none⟩) A2 m m n2 c2 (renP to q P) _ HP3.out (HP2.out.bel hb3) (by rw [renP_length]; exact Hm.out) HN2.out.symm hmax).mono ?_
        rintro e w4 ⟨rfl, hb4⟩
        have hb24 := (hb2.trans hb3).trans hb4
        go_wp2_with fail
        refine (tells_ok 0 q A m c P _ (hR.bel hb24) Hm.out HG.out).mono ?_
        rintro e w5 ⟨rfl, hb5⟩
        rw [← HTV.out]
        go_wp2_with fail
        refine (tells_ok _ q (some ⟨b3, 0, none⟩) m m (renP to q P) _ (HP3.out.bel (hb4.trans hb5)) (by rw [renP_length]; exact Hm.out) (HG.out.ren HN.out)).mono ?_
        rintro e w6 ⟨rfl, hb6⟩
        have HTT := Lib.hid (show tellB (renP to q P) q = tv by rw [HT.out, HTV.out])
        rw [HTT.out]
        go_wp2_with fail
        refine (known_any _).mono ?_
        rintro e w9 ⟨rfl, hb9⟩
        go_wp2
        go_ret
        exact ⟨rfl, ((hb24.trans hb5).trans hb6).trans hb9⟩
      · have HZ := Lib.hid hz
        obtain ⟨ev, hev⟩ : ∃ x, x = errR n P to := ⟨_, rfl⟩
        have HEV := Lib.hid hev
        have hz' : (ev != 0) = true := by rw [hev]; simpa using hz
        obtain ⟨t1, ht1⟩ : ∃ x, x = tellV P n := ⟨_, rfl⟩
        obtain ⟨t2, ht2⟩ : ∃ x, x = tellV ([] : List Wg) n := ⟨_, rfl⟩
        obtain ⟨v1, hv1⟩ : ∃ x, x = errV n P := ⟨_, rfl⟩
        obtain ⟨v2, hv2⟩ : ∃ x, x = errV n ([] : List Wg) := ⟨_, rfl⟩
        have HT1 := Lib.hid ht1; have HT2 := Lib.hid ht2; have HV1 := Lib.hid hv1; have HV2 := Lib.hid hv2
        clear hz hev ht1 ht2 hv1 hv2
        go_wp2_with fail
        refine (rRename_err 0 n A m c P B q d to _ hR Hm.out hI Hq.out hqx HZ.out).mono ?_
        rintro e w2 ⟨rfl, hb2⟩
        rw [← HEV.out]
        go_wp2_with fail
        refine (rename_err 0 n A m c P B q d to _ (hR.bel hb2) Hm.out (hI.bel hb2) Hq.out hqx HZ.out).mono ?_
        rintro e w3 ⟨rfl, hb3⟩
        rw [← HEV.out]
        go_wp2_with fail
        refine (same_any 0 0 none none 0 0 0 0 [] _ (.inl rfl) (.inl rfl) rfl rfl (Nat.zero_le _)).mono ?_
        rintro e w4 ⟨rfl, hb4⟩
        have hb24 := (hb2.trans hb3).trans hb4
        go_wp2_with fail
        refine (tells_any 0 n A m c P _ (hR.bel hb24) Hm.out).mono ?_
        rintro e w5 ⟨rfl, hb5⟩
        rw [← HT1.out, ← HV1.out]
        go_wp2_with fail
        refine (tells_any 0 n none 0 0 [] _ (.inl rfl) rfl).mono ?_
        rintro e w6 ⟨rfl, hb6⟩
        rw [← HT2.out, ← HV2.out]
        go_wp2_with fail
        refine (known_any _).mono ?_
        rintro e w9 ⟨rfl, hb9⟩
        go_wp2
        go_ret
        exact ⟨rfl, ((hb24.trans hb5).trans hb6).trans hb9⟩

set_option maxRecDepth 100000 in
set_option maxHeartbeats 1000000 in
theorem walk (n : Int) (A : Option Addr) (m c : Nat) (Z : List WgZ) (B : Option Addr) (q d : Nat) (zs : List Int) (w : World) (hx : ArgP w A m c Z) (hy : ArgI w B q d zs) :
    Calls Try.prog 15 #[.int .i64 n, .slice A m c, .slice B q d] w fun e w' => e = .returned (.bool true) ∧ Bel w w' := by
  obtain ⟨x1, x2, x3⟩ := hx.els
  obtain ⟨y1, y2, y3⟩ := hy.els
  have hd9 := (reachN_le hy.reach (by omega)).1
  go_enter Try.func15, Try.ntmps15
  go_wp2_with fail
  refine (keepWeighings_any A m c Z _ hx).mono ?_
  rintro e w1 ⟨A', n', c', rfl, hn', hb1, hr1⟩
  have HN := Lib.hid hn'; clear hn'
  go_wp2_with fail
  refine (keepInts_any B q d zs _ (hy.ints.bel hb1) hy.len hy.le hy.nil hy.reach).mono ?_
  rintro e w2 ⟨B', q', d', rfl, hq', hb2, hr2, -⟩
  have HQ := Lib.hid hq'; clear hq'
  have hB2 := hb1.trans hb2
  go_wp2_with fail
  refine (inner n A m c _ B q d _ _ (x1.bel hB2) x2 x3 (y1.bel hB2) y2 y3).mono ?_
  rintro e w3 ⟨rfl, hb3⟩
  go_wp2_with fail
  refine (keptWeighings_any A' A n' c' m c Z _ ((hr1.low (Nat.zero_le _)).bel (hb2.trans hb3)) (hx.bel (hB2.trans hb3)) HN.out).mono ?_
  rintro e w4 ⟨rfl, hb4⟩
  go_wp2_with fail
  refine (keptInts_any B' B q' d' q d zs _ (hr2.bel (hb3.trans hb4)) (hy.ints.bel ((hB2.trans hb3).trans hb4)) HQ.out.symm hy.len hy.le hy.nil hd9).mono ?_
  rintro e w5 ⟨rfl, hb5⟩
  go_wp2
  go_ret
  exact ⟨rfl, ((hB2.trans hb3).trans hb4).trans hb5⟩

set_option maxRecDepth 100000 in
theorem lifted (os : Os) (started : os.Started) (H : Type) (enc : TypeId × Value → H) :
    ReturnsInHanded {} Try.checked os 15 .any (Rows.weighRenamesSpec.pre6 enc Try.prog Try.f15 Rows.weighRenamesRow.domain false) (Rows.weighRenamesSpec.post enc Try.prog Try.f15 false true false false) := by
  refine returnsInHanded_of_change_sized (C := Try.checked) own started (by kernel_rfl) Try.func15
    (ChangeSpec.witness6 (enc := enc) (C := Try.checked) false ⟨#[], #[.int .i64 0, .slice none 0 0, .slice none 0 0], []⟩ 8 (by kernel_rfl) (by kernel_rfl) (by kernel_rfl) (by kernel_rfl)) ?_
  intro W base args ds gs before hval0 hW hcnd hsz0 _
  have hval : ∀ (j : Nat) t v, Try.f15.params[j]? = some t → args[j]? = some v → Value.okWide Try.prog W .any base t v := hval0
  have hsz : (DataW.weightsEach Try.prog (Try.f15.params.toList ++ Rows.weighRenamesSpec.plain.varTypes Try.prog) (ds ++ gs)).all (· ≤ reachBytes) = true := hsz0
  have hW' := hW
  obtain ⟨p, q, hA0, hV, rfl, hfz, hnd⟩ := hW
  have hA : DataW.TrodAll enc Try.prog W 0 (fun _ => true) true Try.f15.params.toList args.toList ds p := hA0
  rw [Try.params15] at hA hval hsz
  obtain ⟨v0, vs0, d0, ds0, p0, q0, hargs, rfl, rfl, h0, r0⟩ := trodAll_cons hA
  obtain ⟨v1, vs1, d1, ds1, p1, q1, rfl, rfl, rfl, h1, r1⟩ := trodAll_cons r0
  obtain ⟨v2, vs2, d2, ds2, p2, q2, rfl, rfl, rfl, h2, r2⟩ := trodAll_cons r1
  obtain ⟨rfl, rfl, rfl⟩ := trodAll_nil r2
  obtain rfl : args = #[v0, v1, v2] := by cases args; simp_all
  obtain ⟨rfl, rfl⟩ := trodVars_none hV
  have k0 := h0
  have lt0 : ∀ x ∈ p0, x.block < W.heap.size := by obtain ⟨m, hm⟩ := k0; exact DataW.trod_lt m _ _ _ hm
  have k1 := h1
  have lt1 : ∀ x ∈ p1, x.block < W.heap.size := by obtain ⟨m, hm⟩ := k1; exact DataW.trod_lt m _ _ _ hm
  have k2 := h2
  have lt2 : ∀ x ∈ p2, x.block < W.heap.size := by obtain ⟨m, hm⟩ := k2; exact DataW.trod_lt m _ _ _ hm
  obtain ⟨x0, rfl, rfl, rfl, w0⟩ := open_int Try.underlying3 (hval 0 3 v0 rfl rfl) h0
  have hr1 : ∀ k ∈ d1.weights Try.prog 22, k ≤ reachN := fun k hk => by rw [← reach_eq]; simpa using List.all_eq_true.1 hsz k (DataW.weights_mem_each (j := 1) rfl rfl k hk)
  obtain ⟨A1, n1, c1, zs1, rfl, a1⟩ := open_argW (hval 1 22 v1 rfl rfl) h1 hr1
  have hr2 : ∀ k ∈ d2.weights Try.prog 28, k ≤ reachN := fun k hk => by rw [← reach_eq]; simpa using List.all_eq_true.1 hsz k (DataW.weights_mem_each (j := 2) rfl rfl k hk)
  obtain ⟨A2, n2, c2, zs2, rfl, a2⟩ := open_argI (hval 2 28 v2 rfl rfl) h2 hr2
  clear hA0 hval0
  refine (walk x0 A1 n1 c1 zs1 A2 n2 c2 zs2 W a1 a2).mono fun e W' ⟨he, bel⟩ => ?_
  subst he
  exact ⟨_, rfl, _, _, _, [], _, [], hW', trodAll_mk1 (shut_bool Try.underlying4 _), trodAll_cons_mk (shut_int Try.underlying3 w0) (trodAll_cons_mk (Below.trod laidOut (by kernel_rfl) (of_decide_eq_true (by kernel_rfl)) k1 bel lt1) (trodAll_cons_mk (Below.trod laidOut (by kernel_rfl) (of_decide_eq_true (by kernel_rfl)) k2 bel lt2) (trodAll_mk0))), rfl, Below.frame bel _, fun h => by cases h⟩

theorem over : Rows.weighRenamesRow.holds Try.pinned (OpenSpec.ofChange Rows.weighRenamesSpec) :=
  OpenClaim.holds_of_wide 15 Try.f15 rfl rfl rfl rfl rfl rfl rfl ⟨rfl, rfl, rfl, rfl, rfl⟩ rfl rfl rfl rfl rfl (by kernel_rfl) Try.func15 (by kernel_rfl)
    (of_decide_eq_true (by kernel_rfl)) (by unfold Func.isWrapper; rw [if_neg (of_decide_eq_false (by kernel_rfl))]; exact ⟨rfl, rfl⟩)
    (fun os started H enc _ => lifted os started H enc)

/-- The statement. -/
theorem proved : Rows.WeighRenamesSaid := over
end Go.Proofs.Ytmckoehkekkldaa.weighRenames
