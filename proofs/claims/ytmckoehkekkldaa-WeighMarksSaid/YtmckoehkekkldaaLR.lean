/-
  The statement WeighMarksSaid: for all numbers of lots and plans Marks answers as the document says, FromMarks gives the plan back from them, the lists stay as they were in their spare cells, too, and the known answers come out. No condition.
-/
import Derived.Test.YtmckoehkekkldaaAN
import Derived.Test.YtmckoehkekkldaaAJ
import Derived.Test.YtmckoehkekkldaaQ
import Derived.Test.YtmckoehkekkldaaR
import Derived.Test.YtmckoehkekkldaaZ
namespace Go.Proofs.Ytmckoehkekkldaa.weighMarks
open Go.ChangeShapes Go.WideShapes Go.ChangeAt Go.RowKit Go.Joins

theorem tab_none (lo : Nat) (w : World) : Tab lo w none [] := .inl rfl

set_option maxRecDepth 100000 in
set_option maxHeartbeats 1000000 in
theorem inner (n : Int) (A : Option Addr) (m c : Nat) (P : List Wg) (w : World) (hR : Plan 0 w A P) (hm : P.length = m) (hmax : m ≤ maxLen) :
    Calls Try.prog 23 #[.int .i64 n, .slice A m c] w fun e w' => e = .returned (.bool true) ∧ Bel w w' := by
  have Hm := Lib.hid hm
  clear hm
  obtain ⟨ev, hev⟩ : ∃ x, x = errV n P := ⟨_, rfl⟩
  have HEV := Lib.hid hev
  go_enter Try.func23, Try.ntmps23
  go_wp2_with fail
  refine (long_any 0 A m c P _ hR Hm.out hmax).mono ?_
  rintro e w1 ⟨⟨bl, rfl⟩, hw1⟩
  subst hw1
  cases bl with
  | true =>
    go_wp2_with fail
    refine (known_any _).mono ?_
    rintro e w9 ⟨rfl, hb9⟩
    go_wp2
    go_ret
    exact ⟨rfl, hb9⟩
  | false =>
    by_cases hz : ev = 0
    · obtain ⟨n', rfl, hG⟩ := errV_good (by rw [← hev]; exact hz)
      have HG := Lib.hid hG
      have HML := Lib.hid (marksT_length P n')
      have hn13 := hG.le
      clear hG hev HEV hz
      go_wp2_with fail
      refine (rMarks_ok 0 n' A m c P _ hR Hm.out HG.out).mono ?_
      rintro e w2 ⟨A1, c1, rfl, hb2, hT1⟩
      go_wp2_with fail
      refine (marks_ok 0 n' A m c P _ (hR.bel hb2) Hm.out HG.out).mono ?_
      rintro e w3 ⟨A2, c2, rfl, hb3, hT2⟩
      go_wp2_with fail
      refine (sameLists_any _ _ A2 A1 n' c2 n' c1 (marksT P n') _ hT2 (hT1.bel hb3) HML.out HML.out (by unfold maxLen; omega)).mono ?_
      rintro e w4 ⟨rfl, hb4⟩
      go_wp2_with fail
      refine (fromMarks_ok _ n' A2 c2 P _ (hT2.bel hb4) HG.out).mono ?_
      rintro e w5 ⟨b, rfl, hb5, hP5⟩
      go_wp2_with fail
      refine (same_any _ 0 (some ⟨b, 0, none⟩) A P.length P.length m c P _ hP5 (hR.bel (((hb2.trans hb3).trans hb4).trans hb5)) rfl Hm.out (by rw [Hm.out]; exact hmax)).mono ?_
      rintro e w6 ⟨rfl, hb6⟩
      go_wp2_with fail
      refine (known_any _).mono ?_
      rintro e w9 ⟨rfl, hb9⟩
      go_wp2
      go_ret
      exact ⟨rfl, ((((hb2.trans hb3).trans hb4).trans hb5).trans hb6).trans hb9⟩
    · have HZ := Lib.hid (show errV n P ≠ 0 by rw [← hev]; exact hz)
      have hz' : (ev != 0) = true := by simpa using hz
      clear hev
      go_wp2_with fail
      refine (rMarks_err 0 n A m c P _ hR Hm.out HZ.out).mono ?_
      rintro e w2 ⟨rfl, hb2⟩
      rw [← HEV.out]
      go_wp2_with fail
      refine (marks_err 0 n A m c P _ (hR.bel hb2) Hm.out HZ.out).mono ?_
      rintro e w3 ⟨rfl, hb3⟩
      rw [← HEV.out]
      go_wp2_with fail
      refine (sameLists_any 0 0 none none 0 0 0 0 [] _ (tab_none _ _) (tab_none _ _) rfl rfl (Nat.zero_le _)).mono ?_
      rintro e w4 ⟨rfl, hb4⟩
      go_wp2_with fail
      refine (known_any _).mono ?_
      rintro e w9 ⟨rfl, hb9⟩
      go_wp2
      go_ret
      exact ⟨rfl, ((hb2.trans hb3).trans hb4).trans hb9⟩

set_option maxRecDepth 100000 in
set_option maxHeartbeats 1000000 in
theorem walk (n : Int) (A : Option Addr) (m c : Nat) (Z : List WgZ) (w : World) (hx : ArgP w A m c Z) :
    Calls Try.prog 6 #[.int .i64 n, .slice A m c] w fun e w' => e = .returned (.bool true) ∧ Bel w w' := by
  obtain ⟨x1, x2, x3⟩ := hx.els
  go_enter Try.func6, Try.ntmps6
  go_wp2_with fail
  refine (keepWeighings_any A m c Z _ hx).mono ?_
  rintro e w1 ⟨A', n', c', rfl, hn', hb1, hr1⟩
  have HN := Lib.hid hn'; clear hn'
  go_wp2_with fail
  refine (inner n A m c _ _ (x1.bel hb1) x2 x3).mono ?_
  rintro e w2 ⟨rfl, hb2⟩
  go_wp2_with fail
  refine (keptWeighings_any A' A n' c' m c Z _ ((hr1.low (Nat.zero_le _)).bel hb2) (hx.bel (hb1.trans hb2)) HN.out).mono ?_
  rintro e w3 ⟨rfl, hb3⟩
  go_wp2
  go_ret
  exact ⟨rfl, (hb1.trans hb2).trans hb3⟩

set_option maxRecDepth 100000 in
theorem lifted (os : Os) (started : os.Started) (H : Type) (enc : TypeId × Value → H) :
    ReturnsInHanded {} Try.checked os 6 .any (Rows.weighMarksSpec.pre6 enc Try.prog Try.f6 Rows.weighMarksRow.domain false) (Rows.weighMarksSpec.post enc Try.prog Try.f6 false true false false) := by
  refine returnsInHanded_of_change_sized (C := Try.checked) own started (by kernel_rfl) Try.func6
    (ChangeSpec.witness6 (enc := enc) (C := Try.checked) false ⟨#[], #[.int .i64 0, .slice none 0 0], []⟩ 8 (by kernel_rfl) (by kernel_rfl) (by kernel_rfl) (by kernel_rfl)) ?_
  intro W base args ds gs before hval0 hW hcnd hsz0 _
  have hval : ∀ (j : Nat) t v, Try.f6.params[j]? = some t → args[j]? = some v → Value.okWide Try.prog W .any base t v := hval0
  have hsz : (DataW.weightsEach Try.prog (Try.f6.params.toList ++ Rows.weighMarksSpec.plain.varTypes Try.prog) (ds ++ gs)).all (· ≤ reachBytes) = true := hsz0
  have hW' := hW
  obtain ⟨p, q, hA0, hV, rfl, hfz, hnd⟩ := hW
  have hA : DataW.TrodAll enc Try.prog W 0 (fun _ => true) true Try.f6.params.toList args.toList ds p := hA0
  rw [Try.params6] at hA hval hsz
  obtain ⟨v0, vs0, d0, ds0, p0, q0, hargs, rfl, rfl, h0, r0⟩ := trodAll_cons hA
  obtain ⟨v1, vs1, d1, ds1, p1, q1, rfl, rfl, rfl, h1, r1⟩ := trodAll_cons r0
  obtain ⟨rfl, rfl, rfl⟩ := trodAll_nil r1
  obtain rfl : args = #[v0, v1] := by cases args; simp_all
  obtain ⟨rfl, rfl⟩ := trodVars_none hV
  have k0 := h0
  have lt0 : ∀ x ∈ p0, x.block < W.heap.size := by obtain ⟨m, hm⟩ := k0; exact DataW.trod_lt m _ _ _ hm
  have k1 := h1
  have lt1 : ∀ x ∈ p1, x.block < W.heap.size := by obtain ⟨m, hm⟩ := k1; exact DataW.trod_lt m _ _ _ hm
  obtain ⟨x0, rfl, rfl, rfl, w0⟩ := open_int Try.underlying3 (hval 0 3 v0 rfl rfl) h0
  have hr1 : ∀ k ∈ d1.weights Try.prog 22, k ≤ reachN := fun k hk => by rw [← reach_eq]; simpa using List.all_eq_true.1 hsz k (DataW.weights_mem_each (j := 1) rfl rfl k hk)
  obtain ⟨A1, n1, c1, zs1, rfl, a1⟩ := open_argW (hval 1 22 v1 rfl rfl) h1 hr1
  clear hA0 hval0
  refine (walk x0 A1 n1 c1 zs1 W a1).mono fun e W' ⟨he, bel⟩ => ?_
  subst he
  exact ⟨_, rfl, _, _, _, [], _, [], hW', trodAll_mk1 (shut_bool Try.underlying4 _), trodAll_cons_mk (shut_int Try.underlying3 w0) (trodAll_cons_mk (Below.trod laidOut (by kernel_rfl) (of_decide_eq_true (by kernel_rfl)) k1 bel lt1) (trodAll_mk0)), rfl, Below.frame bel _, fun h => by cases h⟩

theorem over : Rows.weighMarksRow.holds Try.pinned (OpenSpec.ofChange Rows.weighMarksSpec) :=
  OpenClaim.holds_of_wide 6 Try.f6 rfl rfl rfl rfl rfl rfl rfl ⟨rfl, rfl, rfl, rfl, rfl⟩ rfl rfl rfl rfl rfl (by kernel_rfl) Try.func6 (by kernel_rfl)
    (of_decide_eq_true (by kernel_rfl)) (by unfold Func.isWrapper; rw [if_neg (of_decide_eq_false (by kernel_rfl))]; exact ⟨rfl, rfl⟩)
    (fun os started H enc _ => lifted os started H enc)

/-- The statement. -/
theorem proved : Rows.WeighMarksSaid := over
end Go.Proofs.Ytmckoehkekkldaa.weighMarks
