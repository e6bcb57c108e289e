/-
  The statement WeighAnswersSaid: for all numbers of lots, plans and cases Validate and Answers answer as the document says, those to the opposite case are the opposite ones, the lists stay as they were in their spare cells, too, and the known answers come out. No condition.
-/
import Derived.Test.YtmckoehkekkldaaAC
import Derived.Test.YtmckoehkekkldaaZ
namespace Go.Proofs.Ytmckoehkekkldaa.weighAnswers
open Go.ChangeShapes Go.WideShapes Go.ChangeAt Go.RowKit Go.Joins

theorem opp_err {n : Int} {P : List Wg} {x y : Int} (h : errC n P [(x, y)] = 0) : errC n P [(x, -y)] = 0 := by
  obtain ⟨h1, h2, h3⟩ := errC_zero h
  have h4 : [(x, -y)].all (lotOk n) = true := by simpa [lotOk] using h2
  have h5 : [(x, -y)].all wayOk = true := by
    simp only [List.all_cons, List.all_nil, Bool.and_true, wayOk, decide_eq_true_eq] at h3 ⊢
    omega
  rw [errC_way h1 h4, if_pos h5]
theorem opp_at {n : Int} {P : List Wg} {x y : Int} (h : errC n P [(x, y)] = 0) {k : Nat} {a : Int} (hk : (ansV n P x y)[k]? = some a) : (ansV n P x (-y))[k]? = some (-a) := by
  unfold ansV at hk ⊢
  rw [if_pos h] at hk
  rw [if_pos (opp_err h)]
  unfold timesL at hk ⊢
  simp only [List.getElem?_map, Option.map_eq_some_iff] at hk ⊢
  obtain ⟨v, hv, rfl⟩ := hk
  exact ⟨v, hv, by rw [Int.neg_mul]⟩
theorem opp_len {n : Int} {P : List Wg} {x y : Int} (h : errC n P [(x, y)] = 0) : (ansV n P x (-y)).length = (ansV n P x y).length := by
  unfold ansV
  rw [if_pos h, if_pos (opp_err h), timesL_length, timesL_length]
theorem ans_bd {n : Int} {P : List Wg} {x y : Int} {k : Nat} {a : Int} (hk : (ansV n P x y)[k]? = some a) : -1 ≤ a ∧ a ≤ 1 := by
  unfold ansV at hk
  split at hk
  · rename_i h
    obtain ⟨n', x', rfl, rfl, hx, hy, hG⟩ := case_good h
    unfold timesL at hk
    simp only [List.getElem?_map, Option.map_eq_some_iff] at hk
    obtain ⟨v, hv, rfl⟩ := hk
    exact mark_bd P (x' : Int) y (by rcases hy with h | h; exact .inl h; exact .inr (.inl h)) v (List.mem_of_getElem? hv)
  · simp at hk
set_option maxRecDepth 100000 in
set_option maxHeartbeats 4000000 in
theorem inner (n : Int) (A : Option Addr) (m c : Nat) (P : List Wg) (x y : Int) (w : World) (hR : Plan 0 w A P) (hm : P.length = m) (hmax : m ≤ maxLen) :
    Calls Try.prog 17 #[.int .i64 n, .slice A m c, .agg #[.int .i64 x, .int .i64 y]] w fun e w' => e = .returned (.bool true) ∧ Bel w w' := by
  have Hm := Lib.hid hm
  clear hm
  have HOE := Lib.hid (fun h => @opp_err n P x y h)
  have HOL := Lib.hid (fun h => @opp_len n P x y h)
  have HOA := Lib.hid (fun h k a => @opp_at n P x y h k a)
  have HBD := Lib.hid (fun k a => @ans_bd n P x y k a)
  have HY : Hid (errC n P [(x, y)] = 0 → y = 1 ∨ y = -1) := fun h => by
    obtain ⟨_, _, _, _, _, hy, _⟩ := case_good h
    exact hy
  obtain ⟨ev, hev⟩ : ∃ z, z = errV n P := ⟨_, rfl⟩
  obtain ⟨ec, hec⟩ : ∃ z, z = errC n P [(x, y)] := ⟨_, rfl⟩
  have HEV := Lib.hid hev; have HEC := Lib.hid hec
  clear hev hec
  have Held := Lib.hid (fun w' (h : Bel (w.alloc (.cells #[.int .i64 x, .int .i64 y] 24)) w') => box_case h)
  have hb0 : Bel w (w.alloc (.cells #[.int .i64 x, .int .i64 y] 24)) := (Bel.refl w).alloc _
  go_enter Try.func17, Try.ntmps17
  go_wp2_with fail
  refine (long_any 0 A m c P _ (hR.bel hb0) Hm.out hmax).mono ?_
  rintro e w1 ⟨⟨bl, rfl⟩, hw1⟩
  subst hw1
  cases bl with
  | true =>
    go_wp2_with fail
    refine (known_any _).mono ?_
    rintro e w9 ⟨rfl, hb9⟩
    go_wp2
    go_ret
    exact ⟨rfl, hb0.trans hb9⟩
  | false =>
    go_wp2_with fail
    refine (rAnswers_any 0 n A m c P x y _ (hR.bel hb0) Hm.out).mono ?_
    rintro e w2 ⟨A2, n2, c2, rfl, hb2, hI2, hl2, hn2⟩
    rw [← HEC.out]
    have HL2 := Lib.hid hl2; clear hl2
    obtain ⟨q0, q1⟩ := Held.out _ hb2
    go_wp2_with fail
    refine (answers_any 0 n A m c P x y _ (hR.bel (hb0.trans hb2)) Hm.out).mono ?_
    rintro e w3 ⟨A3, n3, c3, rfl, hb3, hI3, hl3, hn3⟩
    rw [← HEC.out]
    have HL3 := Lib.hid hl3; clear hl3
    obtain rfl : n3 = n2 := by rw [← HL3.out, ← HL2.out]
    clear q0 q1
    have hB3 := hb2.trans hb3
    obtain ⟨q0, q1⟩ := Held.out _ hB3
    go_wp2_with fail
    refine (validate_any 0 n A m c P _ (hR.bel (hb0.trans hB3)) Hm.out).mono ?_
    rintro e w4 ⟨rfl, hb4⟩
    rw [← HEV.out]
    go_wp2_with fail
    refine (rValidate_any 0 n A m c P _ (hR.bel (hb0.trans (hB3.trans hb4))) Hm.out).mono ?_
    rintro e w5 ⟨rfl, hb5⟩
    rw [← HEV.out]
    have hx1 : (ev != ev) = false := by simp
    have hx2 : (ec != ec) = false := by simp
    go_wp2_with fail
    refine (sameInts_any A3 A2 n3 c3 n3 c2 _ _ (hI3.bel (hb4.trans hb5)) (hI2.bel (hb3.trans (hb4.trans hb5))) HL3.out HL2.out (by unfold maxLen; omega)).mono ?_
    rintro e w6 ⟨rfl, hb6⟩
    clear q0 q1
    have hB6 := hB3.trans (hb4.trans (hb5.trans hb6))
    obtain ⟨q0, q1⟩ := Held.out _ hB6
    by_cases h0 : ec = 0
    · have H0 : Hid (errC n P [(x, y)] = 0) := by show _ = _; rw [← HEC.out]; exact h0
      have HYY := HY.out H0.out
      have HYW : IntKind.i64.wrap (-y) = -y := by rcases HYY with h | h <;> subst h <;> rfl
      have HE2 := Lib.hid (HOE.out H0.out)
      clear HYY
      subst h0
      go_wp2_with fail
      refine (answers_any 0 n A m c P x (-y) _ (hR.bel (hb0.trans hB6)) Hm.out).mono ?_
      rintro e w7 ⟨A7, n7, c7, rfl, hb7, hI7, hl7, hn7⟩
      rw [HE2.out]
      obtain rfl : n7 = n3 := by rw [← hl7, HOL.out H0.out, HL3.out]
      have HL7 := Lib.hid hl7; clear hl7
      have hn3i : (n7 : Int) ≤ 3 := by omega
      have hx3 : ((n7 : Int) != (n7 : Int)) = false := by simp
      go_wp2
      go_loopw [13] (fun i wr => ∃ k : Nat, k ≤ n7 ∧ i = .int .i64 k ∧ Bel w7 wr) (fun i _ => n7 - (intOf i).toNat)
      case atStart => exact ⟨0, Nat.zero_le _, rfl, Bel.refl _⟩
      case round =>
        obtain ⟨k, hk, rfl, hb⟩ := hrel
        by_cases hlt : k < n7
        · obtain ⟨b, o, a, rfl, hbl, hg, hc1⟩ := (hI3.bel ((hb4.trans (hb5.trans (hb6.trans hb7))).trans hb)).at_ (k := k) (by rw [HL3.out]; exact hlt)
          obtain ⟨b', o', a', rfl, hbl', hg', hc1'⟩ := (hI7.bel hb).at_ (k := k) (by rw [HL7.out]; exact hlt)
          obtain ⟨d1, d2⟩ := HBD.out k a hg
          rw [HOA.out H0.out k a hg] at hg'
          injection hg' with hg'
          subst hg'
          have hki : (k : Int) < (n7 : Int) := by omega
          have hk0 : (0 : Int) ≤ (k : Int) := by omega
          have HAW : IntKind.i64.wrap (-a) = -a := IntWalk.i64_in _ (by omega)
          have hx4 : (-a != -a) = false := by simp
          clear hg
          go_wp2
          go_quiet (fail)
          go_wp2
          go_roundw
          case rel => exact ⟨k + 1, by omega, by go_num, by (repeat (first | exact Bel.refl _ | assumption | refine Bel.drew ?_ | refine Bel.drewN ?_ _ | refine Bel.alloc ?_ _ | refine Bel.setCell ?_ (by first | omega | (simp; done) | (simp; omega) | (simp at *; omega)) _ | refine Bel.trans ?_ (by assumption)))⟩
          case measure => simp [intOf]; omega
        · obtain rfl : k = n7 := by omega
          go_wp2_with fail
          refine (known_any _).mono ?_
          rintro e w9 ⟨rfl, hb9⟩
          go_wp2
          go_ret
          exact ⟨rfl, hb0.trans (hB6.trans (hb7.trans (hb.trans hb9)))⟩
    · have h0' : (ec != 0) = true := by simpa using h0
      go_wp2_with fail
      refine (known_any _).mono ?_
      rintro e w9 ⟨rfl, hb9⟩
      go_wp2
      go_ret
      exact ⟨rfl, hb0.trans (hB6.trans hb9)⟩

set_option maxRecDepth 100000 in
set_option maxHeartbeats 1000000 in
theorem walk (n : Int) (A : Option Addr) (m c : Nat) (Z : List WgZ) (x y : Int) (w : World) (hx : ArgP w A m c Z) :
    Calls Try.prog 3 #[.int .i64 n, .slice A m c, .agg #[.int .i64 x, .int .i64 y]] w fun e w' => e = .returned (.bool true) ∧ Bel w w' := by
  obtain ⟨x1, x2, x3⟩ := hx.els
  have Held := Lib.hid (fun w' (h : Bel (w.alloc (.cells #[.int .i64 x, .int .i64 y] 24)) w') => box_case h)
  have hb0 : Bel w (w.alloc (.cells #[.int .i64 x, .int .i64 y] 24)) := (Bel.refl w).alloc _
  go_enter Try.func3, Try.ntmps3
  go_wp2_with fail
  refine (keepWeighings_any A m c Z _ (hx.bel hb0)).mono ?_
  rintro e w1 ⟨A', n', c', rfl, hn', hb1, hr1⟩
  have HN := Lib.hid hn'; clear hn'
  obtain ⟨q0, q1⟩ := Held.out _ hb1
  go_wp2_with fail
  refine (inner n A m c _ x y _ (x1.bel (hb0.trans hb1)) x2 x3).mono ?_
  rintro e w2 ⟨rfl, hb2⟩
  go_wp2_with fail
  refine (keptWeighings_any A' A n' c' m c Z _ ((hr1.low (Nat.zero_le _)).bel hb2) (hx.bel (hb0.trans (hb1.trans hb2))) HN.out).mono ?_
  rintro e w3 ⟨rfl, hb3⟩
  go_wp2
  go_ret
  exact ⟨rfl, hb0.trans ((hb1.trans hb2).trans hb3)⟩

set_option maxRecDepth 100000 in
theorem lifted (os : Os) (started : os.Started) (H : Type) (enc : TypeId × Value → H) :
    ReturnsInHanded {} Try.checked os 3 .any (Rows.weighAnswersSpec.pre6 enc Try.prog Try.f3 Rows.weighAnswersRow.domain false) (Rows.weighAnswersSpec.post enc Try.prog Try.f3 false true false false) := by
  refine returnsInHanded_of_change_sized (C := Try.checked) own started (by kernel_rfl) Try.func3
    (ChangeSpec.witness6 (enc := enc) (C := Try.checked) false ⟨#[], #[.int .i64 0, .slice none 0 0, .agg #[.int .i64 0, .int .i64 0]], []⟩ 8 (by kernel_rfl) (by kernel_rfl) (by kernel_rfl) (by kernel_rfl)) ?_
  intro W base args ds gs before hval0 hW hcnd hsz0 _
  have hval : ∀ (j : Nat) t v, Try.f3.params[j]? = some t → args[j]? = some v → Value.okWide Try.prog W .any base t v := hval0
  have hsz : (DataW.weightsEach Try.prog (Try.f3.params.toList ++ Rows.weighAnswersSpec.plain.varTypes Try.prog) (ds ++ gs)).all (· ≤ reachBytes) = true := hsz0
  have hW' := hW
  obtain ⟨p, q, hA0, hV, rfl, hfz, hnd⟩ := hW
  have hA : DataW.TrodAll enc Try.prog W 0 (fun _ => true) true Try.f3.params.toList args.toList ds p := hA0
  rw [Try.params3] at hA hval hsz
  obtain ⟨v0, vs0, d0, ds0, p0, q0, hargs, rfl, rfl, h0, r0⟩ := trodAll_cons hA
  obtain ⟨v1, vs1, d1, ds1, p1, q1, rfl, rfl, rfl, h1, r1⟩ := trodAll_cons r0
  obtain ⟨v2, vs2, d2, ds2, p2, q2, rfl, rfl, rfl, h2, r2⟩ := trodAll_cons r1
  obtain ⟨rfl, rfl, rfl⟩ := trodAll_nil r2
  obtain rfl : args = #[v0, v1, v2] := by cases args; simp_all
  obtain ⟨rfl, rfl⟩ := trodVars_none hV
  have k0 := h0
  have lt0 : ∀ x ∈ p0, x.block < W.heap.size := by obtain ⟨m, hm⟩ := k0; exact DataW.trod_lt m _ _ _ hm
  have k1 := h1
  have lt1 : ∀ x ∈ p1, x.block < W.heap.size := by obtain ⟨m, hm⟩ := k1; exact DataW.trod_lt m _ _ _ hm
  have k2 := h2
  have lt2 : ∀ x ∈ p2, x.block < W.heap.size := by obtain ⟨m, hm⟩ := k2; exact DataW.trod_lt m _ _ _ hm
  obtain ⟨x0, rfl, rfl, rfl, w0⟩ := open_int Try.underlying3 (hval 0 3 v0 rfl rfl) h0
  have hr1 : ∀ k ∈ d1.weights Try.prog 22, k ≤ reachN := fun k hk => by rw [← reach_eq]; simpa using List.all_eq_true.1 hsz k (DataW.weights_mem_each (j := 1) rfl rfl k hk)
  obtain ⟨A1, n1, c1, zs1, rfl, a1⟩ := open_argW (hval 1 22 v1 rfl rfl) h1 hr1
  obtain ⟨x2, y2, rfl⟩ : ∃ x y : Int, v2 = .agg #[.int .i64 x, .int .i64 y] := by
    obtain ⟨c0, c1, y0, y1, m, rfl, -, -, hy0, hy1⟩ := open_agg2 Try.underlying24 (by kernel_rfl) cellsCase (hval 2 24 v2 rfl rfl) h2
    obtain ⟨a, e0, -, -⟩ := DataW.trod_int Try.underlying3 hy0
    obtain ⟨b, e1, -, -⟩ := DataW.trod_int Try.underlying3 hy1
    simp at e0 e1
    subst e0 e1
    exact ⟨a, b, rfl⟩
  clear hA0 hval0
  refine (walk x0 A1 n1 c1 zs1 x2 y2 W a1).mono fun e W' ⟨he, bel⟩ => ?_
  subst he
  exact ⟨_, rfl, _, _, _, [], _, [], hW', trodAll_mk1 (shut_bool Try.underlying4 _), trodAll_cons_mk (shut_int Try.underlying3 w0) (trodAll_cons_mk (Below.trod laidOut (by kernel_rfl) (of_decide_eq_true (by kernel_rfl)) k1 bel lt1) (trodAll_cons_mk (Below.trod laidOut (by kernel_rfl) (of_decide_eq_true (by kernel_rfl)) k2 bel lt2) (trodAll_mk0))), rfl, Below.frame bel _, fun h => by cases h⟩

theorem over : Rows.weighAnswersRow.holds Try.pinned (OpenSpec.ofChange Rows.weighAnswersSpec) :=
  OpenClaim.holds_of_wide 3 Try.f3 rfl rfl rfl rfl rfl rfl rfl ⟨rfl, rfl, rfl, rfl, rfl⟩ rfl rfl rfl rfl rfl (by kernel_rfl) Try.func3 (by kernel_rfl)
    (of_decide_eq_true (by kernel_rfl)) (by unfold Func.isWrapper; rw [if_neg (of_decide_eq_false (by kernel_rfl))]; exact ⟨rfl, rfl⟩)
    (fun os started H enc _ => lifted os started H enc)

/-- The statement. -/
theorem proved : Rows.WeighAnswersSaid := over
end Go.Proofs.Ytmckoehkekkldaa.weighAnswers
