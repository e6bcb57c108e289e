/-
  The statement WeighCasesSaid: for all numbers of lots, plans and answers Cases answers as the document says, the lists stay as they were in their spare cells, too, and the known answers come out. No condition.
-/
import Derived.Test.YtmckoehkekkldaaAI
import Derived.Test.YtmckoehkekkldaaZ
namespace Go.Proofs.Ytmckoehkekkldaa.weighCases
open Go.ChangeShapes Go.WideShapes Go.ChangeAt Go.RowKit Go.Joins

set_option maxRecDepth 100000 in
set_option maxHeartbeats 1000000 in
theorem inner (n : Int) (A : Option Addr) (m c : Nat) (P : List Wg) (B : Option Addr) (q d : Nat) (l : List Int) (w : World) (hR : Plan 0 w A P) (hm : P.length = m) (hmax : m ≤ maxLen) (hI : Ints w B l) (hq : l.length = q) (hqx : q ≤ maxLen) :
    Calls Try.prog 20 #[.int .i64 n, .slice A m c, .slice B q d] w fun e w' => e = .returned (.bool true) ∧ Bel w w' := by
  have Hm := Lib.hid hm; have Hq := Lib.hid hq
  clear hm hq
  obtain ⟨ek, hek⟩ : ∃ z, z = errK n P l := ⟨_, rfl⟩
  obtain ⟨bk, hbk⟩ : ∃ z, z = blankR n P l := ⟨_, rfl⟩
  have HEK := Lib.hid hek; have HBK := Lib.hid hbk
  clear hek hbk
  by_cases h100 : q > 100
  · have hi100 : (q : Int) > 100 := by omega
    go_enter Try.func20, Try.ntmps20
    go_wp2_with fail
    refine (long_any 0 A m c P _ hR Hm.out hmax).mono ?_
    rintro e w1 ⟨⟨bl, rfl⟩, hw1⟩
    subst hw1
    cases bl with
    | true =>
      go_wp2_with fail
      refine (known_any _).mono ?_
      rintro e w9 ⟨rfl, hb9⟩
      go_wp2
      go_ret
      exact ⟨rfl, hb9⟩
    | false =>
      go_wp2_with fail
      refine (known_any _).mono ?_
      rintro e w9 ⟨rfl, hb9⟩
      go_wp2
      go_ret
      exact ⟨rfl, hb9⟩
  · have hi100 : ¬ (q : Int) > 100 := by omega
    go_enter Try.func20, Try.ntmps20
    go_wp2_with fail
    refine (long_any 0 A m c P _ hR Hm.out hmax).mono ?_
    rintro e w1 ⟨⟨bl, rfl⟩, hw1⟩
    subst hw1
    cases bl with
    | true =>
      go_wp2_with fail
      refine (known_any _).mono ?_
      rintro e w9 ⟨rfl, hb9⟩
      go_wp2
      go_ret
      exact ⟨rfl, hb9⟩
    | false =>
      go_wp2_with fail
      refine (rCases_any 0 n A m c P B q d l _ hR Hm.out hI Hq.out).mono ?_
      rintro e w2 ⟨A2, n2, c2, rfl, hb2, hP2, hl2, hn2⟩
      rw [← HEK.out, ← HBK.out]
      have HL2 := Lib.hid hl2; clear hl2
      go_wp2_with fail
      refine (cases_any 0 n A m c P B q d l _ (hR.bel hb2) Hm.out (hI.bel hb2) Hq.out hqx).mono ?_
      rintro e w3 ⟨A3, n3, c3, rfl, hb3, hP3, hl3, hn3⟩
      rw [← HEK.out, ← HBK.out]
      have HL3 := Lib.hid hl3; clear hl3
      have hx1 : (ek == ek) = true := by simp
      have hx2 : (bk == bk) = true := by simp
      go_wp2_with fail
      refine (sameCases_any A3 A2 n3 c3 n2 c2 _ _ hP3 (hP2.bel hb3) HL3.out HL2.out (by unfold maxLen; omega)).mono ?_
      rintro e w4 ⟨rfl, hb4⟩
      go_wp2_with fail
      refine (known_any _).mono ?_
      rintro e w9 ⟨rfl, hb9⟩
      go_wp2
      go_ret
      exact ⟨rfl, ((hb2.trans hb3).trans hb4).trans hb9⟩

set_option maxRecDepth 100000 in
set_option maxHeartbeats 1000000 in
theorem walk (n : Int) (A : Option Addr) (m c : Nat) (Z : List WgZ) (B : Option Addr) (q d : Nat) (zs : List Int) (w : World) (hx : ArgP w A m c Z) (hy : ArgI w B q d zs) :
    Calls Try.prog 4 #[.int .i64 n, .slice A m c, .slice B q d] w fun e w' => e = .returned (.bool true) ∧ Bel w w' := by
  obtain ⟨x1, x2, x3⟩ := hx.els
  obtain ⟨y1, y2, y3⟩ := hy.els
  have hd9 := (reachN_le hy.reach (by omega)).1
  go_enter Try.func4, Try.ntmps4
  go_wp2_with fail
  refine (keepWeighings_any A m c Z _ hx).mono ?_
  rintro e w1 ⟨A', n', c', rfl, hn', hb1, hr1⟩
  have HN := Lib.hid hn'; clear hn'
  go_wp2_with fail
  refine (keepInts_any B q d zs _ (hy.ints.bel hb1) hy.len hy.le hy.nil hy.reach).mono ?_
  rintro e w2 ⟨B', q', d', rfl, hq', hb2, hr2, -⟩
  have HQ := Lib.hid hq'; clear hq'
  have hB2 := hb1.trans hb2
  go_wp2_with fail
  refine (inner n A m c _ B q d _ _ (x1.bel hB2) x2 x3 (y1.bel hB2) y2 y3).mono ?_
  rintro e w3 ⟨rfl, hb3⟩
  go_wp2_with fail
  refine (keptWeighings_any A' A n' c' m c Z _ ((hr1.low (Nat.zero_le _)).bel (hb2.trans hb3)) (hx.bel (hB2.trans hb3)) HN.out).mono ?_
  rintro e w4 ⟨rfl, hb4⟩
  go_wp2_with fail
  refine (keptInts_any B' B q' d' q d zs _ (hr2.bel (hb3.trans hb4)) (hy.ints.bel ((hB2.trans hb3).trans hb4)) HQ.out.symm hy.len hy.le hy.nil hd9).mono ?_
  rintro e w5 ⟨rfl, hb5⟩
  go_wp2
  go_ret
  exact ⟨rfl, ((hB2.trans hb3).trans hb4).trans hb5⟩

set_option maxRecDepth 100000 in
theorem lifted (os : Os) (started : os.Started) (H : Type) (enc : TypeId × Value → H) :
    ReturnsInHanded {} Try.checked os 4 .any (Rows.weighCasesSpec.pre6 enc Try.prog Try.f4 Rows.weighCasesRow.domain false) (Rows.weighCasesSpec.post enc Try.prog Try.f4 false true false false) := by
  refine returnsInHanded_of_change_sized (C := Try.checked) own started (by kernel_rfl) Try.func4
    (ChangeSpec.witness6 (enc := enc) (C := Try.checked) false ⟨#[], #[.int .i64 0, .slice none 0 0, .slice none 0 0], []⟩ 8 (by kernel_rfl) (by kernel_rfl) (by kernel_rfl) (by kernel_rfl)) ?_
  intro W base args ds gs before hval0 hW hcnd hsz0 _
  have hval : ∀ (j : Nat) t v, Try.f4.params[j]? = some t → args[j]? = some v → Value.okWide Try.prog W .any base t v := hval0
  have hsz : (DataW.weightsEach Try.prog (Try.f4.params.toList ++ Rows.weighCasesSpec.plain.varTypes Try.prog) (ds ++ gs)).all (· ≤ reachBytes) = true := hsz0
  have hW' := hW
  obtain ⟨p, q, hA0, hV, rfl, hfz, hnd⟩ := hW
  have hA : DataW.TrodAll enc Try.prog W 0 (fun _ => true) true Try.f4.params.toList args.toList ds p := hA0
  rw [Try.params4] at hA hval hsz
  obtain ⟨v0, vs0, d0, ds0, p0, q0, hargs, rfl, rfl, h0, r0⟩ := trodAll_cons hA
  obtain ⟨v1, vs1, d1, ds1, p1, q1, rfl, rfl, rfl, h1, r1⟩ := trodAll_cons r0
  obtain ⟨v2, vs2, d2, ds2, p2, q2, rfl, rfl, rfl, h2, r2⟩ := trodAll_cons r1
  obtain ⟨rfl, rfl, rfl⟩ := trodAll_nil r2
  obtain rfl : args = #[v0, v1, v2] := by cases args; simp_all
  obtain ⟨rfl, rfl⟩ := trodVars_none hV
  have k0 := h0
  have lt0 : ∀ x ∈ p0, x.block < W.heap.size := by obtain ⟨m, hm⟩ := k0; exact DataW.trod_lt m _ _ _ hm
  have k1 := h1
  have lt1 : ∀ x ∈ p1, x.block < W.heap.size := by obtain ⟨m, hm⟩ := k1; exact DataW.trod_lt m _ _ _ hm
  have k2 := h2
  have lt2 : ∀ x ∈ p2, x.block < W.heap.size := by obtain ⟨m, hm⟩ := k2; exact DataW.trod_lt m _ _ _ hm
  obtain ⟨x0, rfl, rfl, rfl, w0⟩ := open_int Try.underlying3 (hval 0 3 v0 rfl rfl) h0
  have hr1 : ∀ k ∈ d1.weights Try.prog 22, k ≤ reachN := fun k hk => by rw [← reach_eq]; simpa using List.all_eq_true.1 hsz k (DataW.weights_mem_each (j := 1) rfl rfl k hk)
  obtain ⟨A1, n1, c1, zs1, rfl, a1⟩ := open_argW (hval 1 22 v1 rfl rfl) h1 hr1
  have hr2 : ∀ k ∈ d2.weights Try.prog 28, k ≤ reachN := fun k hk => by rw [← reach_eq]; simpa using List.all_eq_true.1 hsz k (DataW.weights_mem_each (j := 2) rfl rfl k hk)
  obtain ⟨A2, n2, c2, zs2, rfl, a2⟩ := open_argI (hval 2 28 v2 rfl rfl) h2 hr2
  clear hA0 hval0
  refine (walk x0 A1 n1 c1 zs1 A2 n2 c2 zs2 W a1 a2).mono fun e W' ⟨he, bel⟩ => ?_
  subst he
  exact ⟨_, rfl, _, _, _, [], _, [], hW', trodAll_mk1 (shut_bool Try.underlying4 _), trodAll_cons_mk (shut_int Try.underlying3 w0) (trodAll_cons_mk (Below.trod laidOut (by kernel_rfl) (of_decide_eq_true (by kernel_rfl)) k1 bel lt1) (trodAll_cons_mk (Below.trod laidOut (by kernel_rfl) (of_decide_eq_true (by kernel_rfl)) k2 bel lt2) (trodAll_mk0))), rfl, Below.frame bel _, fun h => by cases h⟩

theorem over : Rows.weighCasesRow.holds Try.pinned (OpenSpec.ofChange Rows.weighCasesSpec) :=
  OpenClaim.holds_of_wide 4 Try.f4 rfl rfl rfl rfl rfl rfl rfl ⟨rfl, rfl, rfl, rfl, rfl⟩ rfl rfl rfl rfl rfl (by kernel_rfl) Try.func4 (by kernel_rfl)
    (of_decide_eq_true (by kernel_rfl)) (by unfold Func.isWrapper; rw [if_neg (of_decide_eq_false (by kernel_rfl))]; exact ⟨rfl, rfl⟩)
    (fun os started H enc _ => lifted os started H enc)

/-- The statement. -/
theorem proved : Rows.WeighCasesSaid := over
end Go.Proofs.Ytmckoehkekkldaa.weighCases
