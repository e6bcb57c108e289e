/-
  The statement WeighFindsSaid: for all numbers of lots, plans and cases the case is among those of its answers, alone where the plan tells, and then the answers are not blank; the lists stay as they were in their spare cells, too, and the known answers come out. No condition.
-/
import Derived.Test.YtmckoehkekkldaaAI
import Derived.Test.YtmckoehkekkldaaZ
namespace Go.Proofs.Ytmckoehkekkldaa.weighFinds
open Go.ChangeShapes Go.WideShapes Go.ChangeAt Go.RowKit Go.Joins

theorem cases_nodup (n : Nat) : (casesL n).Nodup := by
  rw [List.nodup_iff_pairwise_ne, List.pairwise_iff_getElem]
  intro i j hi hj hij e
  rw [casesL_length] at hi hj
  have h1 := casesL_at n i hi
  have h2 := casesL_at n j hj
  rw [List.getElem?_eq_getElem (by rw [casesL_length]; exact hi)] at h1
  rw [List.getElem?_eq_getElem (by rw [casesL_length]; exact hj)] at h2
  injection h1 with h1
  injection h2 with h2
  rw [h1, h2] at e
  injection e with e1 e2
  unfold lotN at e1
  unfold wayN at e2
  split at e2 <;> split at e2 <;> first | omega | (cases e2; done)
theorem mem_cases {n x : Nat} {y : Int} (hx : x < n) (hy : y = 1 ∨ y = -1) : ((x : Int), y) ∈ casesL n := by
  rcases hy with rfl | rfl
  · have h := casesL_at n (2 * x + 1) (by omega)
    rw [(lotN_two x).2, (wayN_two x).2] at h
    exact List.mem_of_getElem? h
  · have h := casesL_at n (2 * x) (by omega)
    rw [(lotN_two x).1, (wayN_two x).1] at h
    exact List.mem_of_getElem? h
theorem mem_form {n : Nat} {c : Int × Int} (h : c ∈ casesL n) : ∃ x : Nat, x < n ∧ c.1 = (x : Int) ∧ (c.2 = 1 ∨ c.2 = -1) := by
  obtain ⟨i, hi⟩ := List.mem_iff_getElem?.1 h
  have hl := (List.getElem?_eq_some_iff.1 hi).1
  rw [casesL_length] at hl
  rw [casesL_at n i hl] at hi
  injection hi with hi
  subst hi
  exact ⟨lotN i, by unfold lotN; omega, rfl, wayN_or i⟩
theorem one_of {l : List (Int × Int)} {a : Int × Int} (hn : l.Nodup) (ha : a ∈ l) (h : ∀ x ∈ l, x = a) : l.length = 1 := by
  rcases l with _ | ⟨x, _ | ⟨y, r⟩⟩
  · cases ha
  · rfl
  · have h1 := h x (by simp)
    have h2 := h y (by simp)
    rw [List.nodup_cons] at hn
    exact absurd (by rw [h1, h2]; simp) hn.1
/-- What is said of a case and those of its answers. -/
theorem finds {n : Int} {P : List Wg} {x y : Int} (h : errC n P [(x, y)] = 0) :
    errV n P = 0 ∧ errK n P (ansV n P x y) = 0 ∧ (x, y) ∈ casesR n P (ansV n P x y) ∧ (tellV P n = true → (casesR n P (ansV n P x y)).length = 1 ∧ blankR n P (ansV n P x y) = false) := by
  obtain ⟨n', x', rfl, rfl, hx, hy, hG⟩ := case_good h
  have h3 := hG.few
  have hA : ansV (n' : Int) P (x' : Int) y = timesL (markL P (x' : Int)) y := by unfold ansV; rw [if_pos h]
  rw [hA]
  have hs : sidesB (timesL (markL P (x' : Int)) y) = true := by
    unfold sidesB
    rw [List.all_eq_true]
    intro v hv
    obtain ⟨k, hk⟩ := List.mem_iff_getElem?.1 hv
    rw [ansL_at] at hk
    split at hk
    · injection hk with hk
      subst hk
      unfold sideOk
      rcases ansN_cases P (x' : Int) y hy k with e | e | e <;> rw [e] <;> decide
    · cases hk
  have hK : errK (n' : Int) P (timesL (markL P (x' : Int)) y) = 0 := errK_ok hG.err ⟨by rw [timesL_length, markL_length], hs⟩
  have hC : casesR (n' : Int) P (timesL (markL P (x' : Int)) y) = (casesL n').filter (isAns P (timesL (markL P (x' : Int)) y)) := by unfold casesR; rw [if_pos hK]; rfl
  have hmem : ((x' : Int), y) ∈ (casesL n').filter (isAns P (timesL (markL P (x' : Int)) y)) := List.mem_filter.2 ⟨mem_cases hx hy, by unfold isAns; simp⟩
  refine ⟨hG.err, hK, by rw [hC]; exact hmem, fun ht => ?_⟩
  have hT : Tells P n' := by
    unfold tellV at ht
    rw [if_pos hG.err] at ht
    exact tellB_iff.1 ht
  constructor
  · rw [hC]
    refine one_of ((cases_nodup n').filter _) hmem fun c hc => ?_
    obtain ⟨hc1, hc2⟩ := List.mem_filter.1 hc
    obtain ⟨u, hu, e1, hv⟩ := mem_form hc1
    obtain ⟨c1, c2⟩ := c
    simp only at e1 hv
    subst e1
    unfold isAns at hc2
    have hb := tells_case hT hu hx hv hy
    by_cases hs : (u : Int) = (x' : Int) ∧ c2 = y
    · rw [hs.1, hs.2]
    · rw [badB_diff P hs, ← ans_same h3] at hb
      rw [hb] at hc2
      cases hc2
  · unfold blankR
    rw [if_pos hK, ans_blank h3, ← badB_same]
    exact tells_case hT hx hx hy hy
def inL (l : List (Int × Int)) (c : Int × Int) (k : Nat) : Bool := (l.take k).contains c
theorem inL_next {l : List (Int × Int)} {c d : Int × Int} {k : Nat} (hg : l[k]? = some d) : inL l c (k + 1) = (inL l c k || decide (d = c)) := by
  unfold inL
  rw [take_at hg, Bool.eq_iff_iff, Bool.or_eq_true, decide_eq_true_iff, List.contains_iff_mem, List.contains_iff_mem, List.mem_append, List.mem_singleton]
  exact ⟨fun h => h.imp id Eq.symm, fun h => h.imp id Eq.symm⟩
theorem inL_all {l : List (Int × Int)} {c : Int × Int} {n : Nat} (h : c ∈ l) (hn : l.length = n) : inL l c n = true := by
  unfold inL
  rw [List.take_of_length_le (by omega)]
  simpa using h
set_option maxRecDepth 100000 in
set_option maxHeartbeats 4000000 in
theorem inner (n : Int) (A : Option Addr) (m c : Nat) (P : List Wg) (x y : Int) (w : World) (hR : Plan 0 w A P) (hm : P.length = m) (hmax : m ≤ maxLen) :
    Calls Try.prog 22 #[.int .i64 n, .slice A m c, .agg #[.int .i64 x, .int .i64 y]] w fun e w' => e = .returned (.bool true) ∧ Bel w w' := by
  have Hm := Lib.hid hm
  clear hm
  have HF := Lib.hid (fun h => @finds n P x y h)
  obtain ⟨ev, hev⟩ : ∃ z, z = errV n P := ⟨_, rfl⟩
  obtain ⟨ec, hec⟩ : ∃ z, z = errC n P [(x, y)] := ⟨_, rfl⟩
  obtain ⟨tv, htv⟩ : ∃ z, z = tellV P n := ⟨_, rfl⟩
  have HEV := Lib.hid hev; have HEC := Lib.hid hec; have HTV := Lib.hid htv
  clear hev hec htv
  have Held := Lib.hid (fun w' (h : Bel (w.alloc (.cells #[.int .i64 x, .int .i64 y] 24)) w') => box_case h)
  have hb0 : Bel w (w.alloc (.cells #[.int .i64 x, .int .i64 y] 24)) := (Bel.refl w).alloc _
  go_enter Try.func22, Try.ntmps22
  go_wp2_with fail
  refine (long_any 0 A m c P _ (hR.bel hb0) Hm.out hmax).mono ?_
  rintro e w1 ⟨⟨bl, rfl⟩, hw1⟩
  subst hw1
  cases bl with
  | true =>
    go_wp2_with fail
    refine (known_any _).mono ?_
    rintro e w9 ⟨rfl, hb9⟩
    go_wp2
    go_ret
    exact ⟨rfl, hb0.trans hb9⟩
  | false =>
    go_wp2_with fail
    refine (answers_any 0 n A m c P x y _ (hR.bel hb0) Hm.out).mono ?_
    rintro e w2 ⟨A2, n2, c2, rfl, hb2, hI2, hl2, hn2⟩
    rw [← HEC.out]
    have HL2 := Lib.hid hl2; clear hl2
    by_cases h0 : ec = 0
    · obtain ⟨f1, f2, f3, f4⟩ := HF.out (by rw [← HEC.out]; exact h0)
      have F1 : Hid (ev = 0) := by show _ = _; rw [HEV.out]; exact f1
      have F2 := Lib.hid f2; have F3 := Lib.hid f3
      have F4 : Hid (tv = true → _) := fun h => f4 (by rw [← HTV.out]; exact h)
      clear f1 f2 f3 f4
      subst h0
      go_wp2_with fail
      refine (cases_any 0 n A m c P A2 n2 c2 _ _ (hR.bel (hb0.trans hb2)) Hm.out hI2 HL2.out (by unfold maxLen; omega)).mono ?_
      rintro e w3 ⟨A3, n3, c3, rfl, hb3, hP3, hl3, hn3⟩
      rw [F2.out]
      obtain ⟨bk, hbk⟩ : ∃ z, z = blankR n P (ansV n P x y) := ⟨_, rfl⟩
      rw [← hbk] at F4 ⊢
      obtain ⟨L, hL⟩ : ∃ z, z = casesR n P (ansV n P x y) := ⟨_, rfl⟩
      rw [← hL] at F3 F4 hP3 hl3
      have HL3 := Lib.hid hl3
      clear hl3 hbk hL
      have hB3 := hb2.trans hb3
      go_wp2_with fail
      refine (tells_any 0 n A m c P _ (hR.bel (hb0.trans hB3)) Hm.out).mono ?_
      rintro e w4 ⟨rfl, hb4⟩
      rw [← HTV.out, ← HEV.out, F1.out]
      have hB4 := hB3.trans hb4
      have hn3i : (n3 : Int) ≤ 26 := by omega
      go_wp2
      go_loopw [14, 15] (fun v i wr => ∃ k : Nat, k ≤ n3 ∧ i = .int .i64 k ∧ v = .bool (inL L (x, y) k) ∧ Bel w4 wr) (fun _ i _ => n3 - (intOf i).toNat)
      case atStart => exact ⟨0, Nat.zero_le _, rfl, rfl, Bel.refl _⟩
      case round =>
        obtain ⟨k, hk, rfl, rfl, hb⟩ := hrel
        by_cases hlt : k < n3
        · obtain ⟨b, o, s, t, rfl, hbl, hg, c1, c2'⟩ := (hP3.bel (hb4.trans hb)).at_ (k := k) (by rw [HL3.out]; exact hlt)
          have hnx := inL_next (c := (x, y)) hg
          obtain ⟨q0, q1⟩ := Held.out wr (hB4.trans hb)
          have hki : (k : Int) < (n3 : Int) := by omega
          have hk0 : (0 : Int) ≤ (k : Int) := by omega
          clear hg
          cases hin : inL L (x, y) k
          · rw [hin, Bool.false_or] at hnx
            by_cases hs : s = x
            · subst hs
              by_cases ht : t = y
              · subst ht
                rw [decide_eq_true rfl] at hnx
                have HNX := Lib.hid hnx
                clear hnx hin
                go_wp2
                go_quiet (fail)
                go_wp2
                go_roundw
                case rel => exact ⟨k + 1, by omega, by go_num, by rw [HNX.out], by (repeat (first | exact Bel.refl _ | assumption | refine Bel.drew ?_ | refine Bel.drewN ?_ _ | refine Bel.alloc ?_ _ | refine Bel.setCell ?_ (by first | omega | (simp; done) | (simp; omega) | (simp at *; omega)) _ | refine Bel.trans ?_ (by assumption)))⟩
                case measure => simp [intOf]; omega
              · rw [decide_eq_false (by simpa using ht)] at hnx
                have HNX := Lib.hid hnx
                clear hnx hin
                go_wp2
                go_quiet (fail)
                go_wp2
                go_roundw
                case rel => exact ⟨k + 1, by omega, by go_num, by rw [HNX.out], by (repeat (first | exact Bel.refl _ | assumption | refine Bel.drew ?_ | refine Bel.drewN ?_ _ | refine Bel.alloc ?_ _ | refine Bel.setCell ?_ (by first | omega | (simp; done) | (simp; omega) | (simp at *; omega)) _ | refine Bel.trans ?_ (by assumption)))⟩
                case measure => simp [intOf]; omega
            · rw [decide_eq_false (by simp [hs])] at hnx
              have HNX := Lib.hid hnx
              clear hnx hin
              go_wp2
              go_quiet (fail)
              go_wp2
              go_roundw
              case rel => exact ⟨k + 1, by omega, by go_num, by rw [HNX.out], by (repeat (first | exact Bel.refl _ | assumption | refine Bel.drew ?_ | refine Bel.drewN ?_ _ | refine Bel.alloc ?_ _ | refine Bel.setCell ?_ (by first | omega | (simp; done) | (simp; omega) | (simp at *; omega)) _ | refine Bel.trans ?_ (by assumption)))⟩
              case measure => simp [intOf]; omega
          · rw [hin, Bool.true_or] at hnx
            have HNX := Lib.hid hnx
            clear hnx hin
            go_wp2
            go_quiet (fail)
            go_wp2
            go_roundw
            case rel => exact ⟨k + 1, by omega, by go_num, by rw [HNX.out], by (repeat (first | exact Bel.refl _ | assumption | refine Bel.drew ?_ | refine Bel.drewN ?_ _ | refine Bel.alloc ?_ _ | refine Bel.setCell ?_ (by first | omega | (simp; done) | (simp; omega) | (simp at *; omega)) _ | refine Bel.trans ?_ (by assumption)))⟩
            case measure => simp [intOf]; omega
        · obtain rfl : k = n3 := by omega
          rw [inL_all F3.out HL3.out]
          cases htv2 : tv
          · subst htv2
            go_wp2_with fail
            refine (known_any _).mono ?_
            rintro e w9 ⟨rfl, hb9⟩
            go_wp2
            go_ret
            exact ⟨rfl, hb0.trans (hB4.trans (hb.trans hb9))⟩
          · obtain ⟨g1, g2⟩ := F4.out htv2
            rw [HL3.out] at g1
            subst htv2 g1 g2
            go_wp2_with fail
            refine (known_any _).mono ?_
            rintro e w9 ⟨rfl, hb9⟩
            go_wp2
            go_ret
            exact ⟨rfl, hb0.trans (hB4.trans (hb.trans hb9))⟩
    · have h0' : (ec != 0) = true := by simpa using h0
      go_wp2_with fail
      refine (known_any _).mono ?_
      rintro e w9 ⟨rfl, hb9⟩
      go_wp2
      go_ret
      exact ⟨rfl, hb0.trans (hb2.trans hb9)⟩

set_option maxRecDepth 100000 in
set_option maxHeartbeats 1000000 in
theorem walk (n : Int) (A : Option Addr) (m c : Nat) (Z : List WgZ) (x y : Int) (w : World) (hx : ArgP w A m c Z) :
    Calls Try.prog 5 #[.int .i64 n, .slice A m c, .agg #[.int .i64 x, .int .i64 y]] w fun e w' => e = .returned (.bool true) ∧ Bel w w' := by
  obtain ⟨x1, x2, x3⟩ := hx.els
  have Held := Lib.hid (fun w' (h : Bel (w.alloc (.cells #[.int .i64 x, .int .i64 y] 24)) w') => box_case h)
  have hb0 : Bel w (w.alloc (.cells #[.int .i64 x, .int .i64 y] 24)) := (Bel.refl w).alloc _
  go_enter Try.func5, Try.ntmps5
  go_wp2_with fail
  refine (keepWeighings_any A m c Z _ (hx.bel hb0)).mono ?_
  rintro e w1 ⟨A', n', c', rfl, hn', hb1, hr1⟩
  have HN := Lib.hid hn'; clear hn'
  obtain ⟨q0, q1⟩ := Held.out _ hb1
  go_wp2_with fail
  refine (inner n A m c _ x y _ (x1.bel (hb0.trans hb1)) x2 x3).mono ?_
  rintro e w2 ⟨rfl, hb2⟩
  go_wp2_with fail
  refine (keptWeighings_any A' A n' c' m c Z _ ((hr1.low (Nat.zero_le _)).bel hb2) (hx.bel (hb0.trans (hb1.trans hb2))) HN.out).mono ?_
  rintro e w3 ⟨rfl, hb3⟩
  go_wp2
  go_ret
  exact ⟨rfl, hb0.trans ((hb1.trans hb2).trans hb3)⟩

set_option maxRecDepth 100000 in
theorem lifted (os : Os) (started : os.Started) (H : Type) (enc : TypeId × Value → H) :
    ReturnsInHanded {} Try.checked os 5 .any (Rows.weighFindsSpec.pre6 enc Try.prog Try.f5 Rows.weighFindsRow.domain false) (Rows.weighFindsSpec.post enc Try.prog Try.f5 false true false false) := by
  refine returnsInHanded_of_change_sized (C := Try.checked) own started (by kernel_rfl) Try.func5
    (ChangeSpec.witness6 (enc := enc) (C := Try.checked) false ⟨#[], #[.int .i64 0, .slice none 0 0, .agg #[.int .i64 0, .int .i64 0]], []⟩ 8 (by kernel_rfl) (by kernel_rfl) (by kernel_rfl) (by kernel_rfl)) ?_
  intro W base args ds gs before hval0 hW hcnd hsz0 _
  have hval : ∀ (j : Nat) t v, Try.f5.params[j]? = some t → args[j]? = some v → Value.okWide Try.prog W .any base t v := hval0
  have hsz : (DataW.weightsEach Try.prog (Try.f5.params.toList ++ Rows.weighFindsSpec.plain.varTypes Try.prog) (ds ++ gs)).all (· ≤ reachBytes) = true := hsz0
  have hW' := hW
  obtain ⟨p, q, hA0, hV, rfl, hfz, hnd⟩ := hW
  have hA : DataW.TrodAll enc Try.prog W 0 (fun _ => true) true Try.f5.params.toList args.toList ds p := hA0
  rw [Try.params5] at hA hval hsz
  obtain ⟨v0, vs0, d0, ds0, p0, q0, hargs, rfl, rfl, h0, r0⟩ := trodAll_cons hA
  obtain ⟨v1, vs1, d1, ds1, p1, q1, rfl, rfl, rfl, h1, r1⟩ := trodAll_cons r0
  obtain ⟨v2, vs2, d2, ds2, p2, q2, rfl, rfl, rfl, h2, r2⟩ := trodAll_cons r1
  obtain ⟨rfl, rfl, rfl⟩ := trodAll_nil r2
  obtain rfl : args = #[v0, v1, v2] := by cases args; simp_all
  obtain ⟨rfl, rfl⟩ := trodVars_none hV
  have k0 := h0
  have lt0 : ∀ x ∈ p0, x.block < W.heap.size := by obtain ⟨m, hm⟩ := k0; exact DataW.trod_lt m _ _ _ hm
  have k1 := h1
  have lt1 : ∀ x ∈ p1, x.block < W.heap.size := by obtain ⟨m, hm⟩ := k1; exact DataW.trod_lt m _ _ _ hm
  have k2 := h2
  have lt2 : ∀ x ∈ p2, x.block < W.heap.size := by obtain ⟨m, hm⟩ := k2; exact DataW.trod_lt m _ _ _ hm
  obtain ⟨x0, rfl, rfl, rfl, w0⟩ := open_int Try.underlying3 (hval 0 3 v0 rfl rfl) h0
  have hr1 : ∀ k ∈ d1.weights Try.prog 22, k ≤ reachN := fun k hk => by rw [← reach_eq]; simpa using List.all_eq_true.1 hsz k (DataW.weights_mem_each (j := 1) rfl rfl k hk)
  obtain ⟨A1, n1, c1, zs1, rfl, a1⟩ := open_argW (hval 1 22 v1 rfl rfl) h1 hr1
  obtain ⟨x2, y2, rfl⟩ : ∃ x y : Int, v2 = .agg #[.int .i64 x, .int .i64 y] := by
    obtain ⟨c0, c1, y0, y1, m, rfl, -, -, hy0, hy1⟩ := open_agg2 Try.underlying24 (by kernel_rfl) cellsCase (hval 2 24 v2 rfl rfl) h2
    obtain ⟨a, e0, -, -⟩ := DataW.trod_int Try.underlying3 hy0
    obtain ⟨b, e1, -, -⟩ := DataW.trod_int Try.underlying3 hy1
    simp at e0 e1
    subst e0 e1
    exact ⟨a, b, rfl⟩
  clear hA0 hval0
  refine (walk x0 A1 n1 c1 zs1 x2 y2 W a1).mono fun e W' ⟨he, bel⟩ => ?_
  subst he
  exact ⟨_, rfl, _, _, _, [], _, [], hW', trodAll_mk1 (shut_bool Try.underlying4 _), trodAll_cons_mk (shut_int Try.underlying3 w0) (trodAll_cons_mk (Below.trod laidOut (by kernel_rfl) (of_decide_eq_true (by kernel_rfl)) k1 bel lt1) (trodAll_cons_mk (Below.trod laidOut (by kernel_rfl) (of_decide_eq_true (by kernel_rfl)) k2 bel lt2) (trodAll_mk0))), rfl, Below.frame bel _, fun h => by cases h⟩

theorem over : Rows.weighFindsRow.holds Try.pinned (OpenSpec.ofChange Rows.weighFindsSpec) :=
  OpenClaim.holds_of_wide 5 Try.f5 rfl rfl rfl rfl rfl rfl rfl ⟨rfl, rfl, rfl, rfl, rfl⟩ rfl rfl rfl rfl rfl (by kernel_rfl) Try.func5 (by kernel_rfl)
    (of_decide_eq_true (by kernel_rfl)) (by unfold Func.isWrapper; rw [if_neg (of_decide_eq_false (by kernel_rfl))]; exact ⟨rfl, rfl⟩)
    (fun os started H enc _ => lifted os started H enc)

/-- The statement. -/
theorem proved : Rows.WeighFindsSaid := over
end Go.Proofs.Ytmckoehkekkldaa.weighFinds
