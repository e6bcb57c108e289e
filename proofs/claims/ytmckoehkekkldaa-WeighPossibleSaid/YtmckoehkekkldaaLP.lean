/-
  The statement WeighPossibleSaid: for all numbers of lots and plans Possible answers as the document says, a plan tells exactly if there are answers for each case and the blank ones, the lists stay as they were in their spare cells, too, and the known answers come out. No condition.
-/
import Derived.Test.YtmckoehkekkldaaBA
import Derived.Test.YtmckoehkekkldaaP
import Derived.Test.YtmckoehkekkldaaS
import Derived.Test.YtmckoehkekkldaaZ
namespace Go.Proofs.Ytmckoehkekkldaa.weighPossible
open Go.ChangeShapes Go.WideShapes Go.ChangeAt Go.RowKit Go.Joins

set_option maxRecDepth 100000 in
set_option maxHeartbeats 1000000 in
theorem inner (n : Int) (A : Option Addr) (m c : Nat) (P : List Wg) (w : World) (hR : Plan 0 w A P) (hm : P.length = m) (hmax : m ≤ maxLen) :
    Calls Try.prog 37 #[.int .i64 n, .slice A m c] w fun e w' => e = .returned (.bool true) ∧ Bel w w' := by
  have Hm := Lib.hid hm
  clear hm
  obtain ⟨ev, hev⟩ : ∃ x, x = errV n P := ⟨_, rfl⟩
  obtain ⟨pv, hpv⟩ : ∃ x, x = possV P n := ⟨_, rfl⟩
  obtain ⟨tv, htv⟩ : ∃ x, x = tellV P n := ⟨_, rfl⟩
  have HEV := Lib.hid hev; have HPV := Lib.hid hpv; have HTV := Lib.hid htv
  clear hev hpv htv
  go_enter Try.func37, Try.ntmps37
  go_wp2_with fail
  refine (long_any 0 A m c P _ hR Hm.out hmax).mono ?_
  rintro e w1 ⟨⟨bl, rfl⟩, hw1⟩
  subst hw1
  cases bl with
  | true =>
    go_wp2_with fail
    refine (known_any _).mono ?_
    rintro e w9 ⟨rfl, hb9⟩
    go_wp2
    go_ret
    exact ⟨rfl, hb9⟩
  | false =>
    go_wp2_with fail
    refine (rPossible_any 0 n A m c P _ hR Hm.out).mono ?_
    rintro e w2 ⟨rfl, hb2⟩
    rw [← HPV.out, ← HEV.out]
    go_wp2_with fail
    refine (possible_any 0 n A m c P _ (hR.bel hb2) Hm.out).mono ?_
    rintro e w3 ⟨rfl, hb3⟩
    rw [← HPV.out, ← HEV.out]
    go_wp2_with fail
    refine (tells_any 0 n A m c P _ (hR.bel (hb2.trans hb3)) Hm.out).mono ?_
    rintro e w4 ⟨rfl, hb4⟩
    rw [← HTV.out, ← HEV.out]
    have hB := (hb2.trans hb3).trans hb4
    by_cases hz : ev = 0
    · obtain ⟨k, rfl, hG⟩ := errV_good (by rw [← HEV.out]; exact hz)
      have hk := hG.le
      have hpk : pv = (possN P k : Int) := by
        rw [HPV.out]
        unfold possV
        rw [if_pos (by rw [← HEV.out]; exact hz)]
        rfl
      have htk : tv = decide (pv = 2 * (k : Int) + 1) := by
        rw [HTV.out, hpk]
        unfold tellV
        rw [if_pos (by rw [← HEV.out]; exact hz)]
        show tellB P k = _
        rw [possN_tells, Bool.eq_iff_iff, decide_eq_true_iff, decide_eq_true_iff]
        omega
      have htk' : (tv == (pv == 2 * (k : Int) + 1)) = true := by
        rw [htk]
        by_cases h : pv = 2 * (k : Int) + 1 <;> simp [h]
      have hk26 : (k : Int) ≤ 13 := by omega
      clear htk hpk
      subst hz
      go_wp2_with fail
      refine (known_any _).mono ?_
      rintro e w9 ⟨rfl, hb9⟩
      go_wp2
      go_ret
      exact ⟨rfl, hB.trans hb9⟩
    · have hz' : (ev != 0) = true := by simpa using hz
      go_wp2_with fail
      refine (known_any _).mono ?_
      rintro e w9 ⟨rfl, hb9⟩
      go_wp2
      go_ret
      exact ⟨rfl, hB.trans hb9⟩

set_option maxRecDepth 100000 in
set_option maxHeartbeats 1000000 in
theorem walk (n : Int) (A : Option Addr) (m c : Nat) (Z : List WgZ) (w : World) (hx : ArgP w A m c Z) :
    Calls Try.prog 13 #[.int .i64 n, .slice A m c] w fun e w' => e = .returned (.bool true) ∧ Bel w w' := by
  obtain ⟨x1, x2, x3⟩ := hx.els
  go_enter Try.func13, Try.ntmps13
  go_wp2_with fail
  refine (keepWeighings_any A m c Z _ hx).mono ?_
  rintro e w1 ⟨A', n', c', rfl, hn', hb1, hr1⟩
  have HN := Lib.hid hn'; clear hn'
  go_wp2_with fail
  refine (inner n A m c _ _ (x1.bel hb1) x2 x3).mono ?_
  rintro e w2 ⟨rfl, hb2⟩
  go_wp2_with fail
  refine (keptWeighings_any A' A n' c' m c Z _ ((hr1.low (Nat.zero_le _)).bel hb2) (hx.bel (hb1.trans hb2)) HN.out).mono ?_
  rintro e w3 ⟨rfl, hb3⟩
  go_wp2
  go_ret
  exact ⟨rfl, (hb1.trans hb2).trans hb3⟩

set_option maxRecDepth 100000 in
theorem lifted (os : Os) (started : os.Started) (H : Type) (enc : TypeId × Value → H) :
    ReturnsInHanded {} Try.checked os 13 .any (Rows.weighPossibleSpec.pre6 enc Try.prog Try.f13 Rows.weighPossibleRow.domain false) (Rows.weighPossibleSpec.post enc Try.prog Try.f13 false true false false) := by
  refine returnsInHanded_of_change_sized (C := Try.checked) own started (by kernel_rfl) Try.func13
    (ChangeSpec.witness6 (enc := enc) (C := Try.checked) false ⟨#[], #[.int .i64 0, .slice none 0 0], []⟩ 8 (by kernel_rfl) (by kernel_rfl) (by kernel_rfl) (by kernel_rfl)) ?_
  intro W base args ds gs before hval0 hW hcnd hsz0 _
  have hval : ∀ (j : Nat) t v, Try.f13.params[j]? = some t → args[j]? = some v → Value.okWide Try.prog W .any base t v := hval0
  have hsz : (DataW.weightsEach Try.prog (Try.f13.params.toList ++ Rows.weighPossibleSpec.plain.varTypes Try.prog) (ds ++ gs)).all (· ≤ reachBytes) = true := hsz0
  have hW' := hW
  obtain ⟨p, q, hA0, hV, rfl, hfz, hnd⟩ := hW
  have hA : DataW.TrodAll enc Try.prog W 0 (fun _ => true) true Try.f13.params.toList args.toList ds p := hA0
  rw [Try.params13] at hA hval hsz
  obtain ⟨v0, vs0, d0, ds0, p0, q0, hargs, rfl, rfl, h0, r0⟩ := trodAll_cons hA
  obtain ⟨v1, vs1, d1, ds1, p1, q1, rfl, rfl, rfl, h1, r1⟩ := trodAll_cons r0
  obtain ⟨rfl, rfl, rfl⟩ := trodAll_nil r1
  obtain rfl : args = #[v0, v1] := by cases args; simp_all
  obtain ⟨rfl, rfl⟩ := trodVars_none hV
  have k0 := h0
  have lt0 : ∀ x ∈ p0, x.block < W.heap.size := by obtain ⟨m, hm⟩ := k0; exact DataW.trod_lt m _ _ _ hm
  have k1 := h1
  have lt1 : ∀ x ∈ p1, x.block < W.heap.size := by obtain ⟨m, hm⟩ := k1; exact DataW.trod_lt m _ _ _ hm
  obtain ⟨x0, rfl, rfl, rfl, w0⟩ := open_int Try.underlying3 (hval 0 3 v0 rfl rfl) h0
  have hr1 : ∀ k ∈ d1.weights Try.prog 22, k ≤ reachN := fun k hk => by rw [← reach_eq]; simpa using List.all_eq_true.1 hsz k (DataW.weights_mem_each (j := 1) rfl rfl k hk)
  obtain ⟨A1, n1, c1, zs1, rfl, a1⟩ := open_argW (hval 1 22 v1 rfl rfl) h1 hr1
  clear hA0 hval0
  refine (walk x0 A1 n1 c1 zs1 W a1).mono fun e W' ⟨he, bel⟩ => ?_
  subst he
  exact ⟨_, rfl, _, _, _, [], _, [], hW', trodAll_mk1 (shut_bool Try.underlying4 _), trodAll_cons_mk (shut_int Try.underlying3 w0) (trodAll_cons_mk (Below.trod laidOut (by kernel_rfl) (of_decide_eq_true (by kernel_rfl)) k1 bel lt1) (trodAll_mk0)), rfl, Below.frame bel _, fun h => by cases h⟩

theorem over : Rows.weighPossibleRow.holds Try.pinned (OpenSpec.ofChange Rows.weighPossibleSpec) :=
  OpenClaim.holds_of_wide 13 Try.f13 rfl rfl rfl rfl rfl rfl rfl ⟨rfl, rfl, rfl, rfl, rfl⟩ rfl rfl rfl rfl rfl (by kernel_rfl) Try.func13 (by kernel_rfl)
    (of_decide_eq_true (by kernel_rfl)) (by unfold Func.isWrapper; rw [if_neg (of_decide_eq_false (by kernel_rfl))]; exact ⟨rfl, rfl⟩)
    (fun os started H enc _ => lifted os started H enc)

/-- The statement. -/
theorem proved : Rows.WeighPossibleSaid := over
end Go.Proofs.Ytmckoehkekkldaa.weighPossible
