/-
  The statement JudgeWithoutSaid: for all records and numbers Without answers as the document says, at most one fewer answer is against each grade, the list stays as it was in its spare cells, too, and the known answers come out. No condition.
-/
import Derived.Test.YtjcompmmjcefhaaRC
import Derived.Test.YtjcompmmjcefhaaQP
namespace Go.Proofs.Ytjcompmmjcefhaa.judgeWithout
open Go.ChangeShapes Go.WideShapes Go.ChangeAt Go.RowKit Go.Joins

theorem long_parts {L : List An} (h : longB L = false) : L.length ≤ 100 ∧ ∀ a ∈ L, a.1.length ≤ 100 := by
  unfold longB at h
  rw [Bool.or_eq_false_iff] at h
  refine ⟨by have := h.1; rw [decide_eq_false_iff_not] at this; omega, fun a ha => ?_⟩
  have := List.any_eq_false.1 h.2 a ha
  rw [decide_eq_true_eq] at this
  omega
/-- What is left is valid, too. -/
theorem wo_valid {g : Int} {L : List An} (h : errA g L = 0) (k : Nat) : errA g (L.eraseIdx k) = 0 := by
  obtain ⟨h1, h2, h3⟩ := errA_zero h
  have hl := List.length_eraseIdx_le (l := L) (i := k)
  unfold errA
  rw [if_pos h1, if_neg (by omega), if_pos]
  unfold setsB at h3 ⊢
  rw [List.all_eq_true] at h3 ⊢
  exact fun a ha => h3 a ((List.eraseIdx_sublist L k).subset ha)
/-- Of each grade at most one fewer is against it. -/
theorem wo_count (L : List An) (k i : Nat) : cntI L i - cntI (L.eraseIdx k) i = 0 ∨ cntI L i - cntI (L.eraseIdx k) i = 1 := by
  by_cases hk : k < L.length
  · have h : L[k]? = some L[k] := List.getElem?_eq_getElem hk
    have e1 : L = L.take k ++ L[k] :: L.drop (k + 1) := by
      rw [← drop_at h, List.take_append_drop]
    have e2 : L.eraseIdx k = L.take k ++ L.drop (k + 1) := List.eraseIdx_eq_take_drop_succ L k
    have f1 : cntI L i = cntI (L.take k) i + (if ag L[k] (i : Int) = true then 1 else 0) + cntI (L.drop (k + 1)) i := by
      conv => lhs; rw [e1]
      unfold cntI
      rw [List.filter_append, List.filter_cons]
      split <;> simp <;> omega
    have f2 : cntI (L.eraseIdx k) i = cntI (L.take k) i + cntI (L.drop (k + 1)) i := by
      rw [e2]
      unfold cntI
      rw [List.filter_append]
      simp
    rw [f1, f2]
    split <;> omega
  · rw [List.eraseIdx_of_length_le (by omega)]
    omega
/-- What Against answers, whatever record it is given. -/
def AgAt (g : Int) (L : List An) (w : World) (e : Ending) (w' : World) : Prop := ∃ A n c, e = .returned (.tuple #[.slice A n c, .int .i64 (errA g L)]) ∧ Bel w w'
theorem against_x (g : Int) (A : Option Addr) (n c : Nat) (L : List An) (w : World) (hR : Ans w A L) (hn : L.length = n) (hmax : n ≤ maxLen) :
    Calls Try.prog 24 #[.int .i64 g, .slice A n c] w (AgAt g L w) := by
  by_cases he : errA g L = 0
  · obtain ⟨k, rfl, -, -⟩ := errA_nat he
    refine (wAgainst_ok k A n c L w hR hn hmax he).mono ?_
    rintro e w' ⟨A', n', c', rfl, -, hb, -⟩
    exact ⟨A', n', c', by rw [he], hb⟩
  · refine (wAgainst_err g A n c L w hR hn hmax he).mono ?_
    rintro e w' ⟨rfl, hb⟩
    exact ⟨none, 0, 0, rfl, hb⟩
theorem countL_at {L : List An} {g r : Nat} (hr : r < g) : (countL L g)[r]? = some (cntI L r) := by
  unfold countL
  rw [List.getElem?_map, List.getElem?_range hr]
  rfl

set_option maxRecDepth 100000 in
set_option maxHeartbeats 1000000 in
theorem inner_err (g : Int) (A : Option Addr) (n c : Nat) (L : List An) (k : Int) (x : Int) (w : World) (hR : Ans w A L) (hn : L.length = n) (hmax : n ≤ maxLen) (hl : longB L = false) (hx : x ≠ 0)
    (h1 : ∀ w', Bel w w' → Calls Try.prog 34 #[.int .i64 g, .slice A n c, .int .i64 k] w' fun e w2 => e = .returned (.tuple #[.slice none 0 0, .int .i64 x]) ∧ Bel w' w2)
    (h2 : ∀ w', Bel w w' → Calls Try.prog 35 #[.int .i64 g, .slice A n c, .int .i64 k] w' fun e w2 => e = .returned (.tuple #[.slice none 0 0, .int .i64 x]) ∧ Bel w' w2) :
    Calls Try.prog 14 #[.int .i64 g, .slice A n c, .int .i64 k] w fun e w' => e = .returned (.bool true) ∧ Bel w w' := by
  have Hn := Lib.hid hn; have HX := Lib.hid hmax; have HL := Lib.hid hl
  have H1 := Lib.hid h1; have H2 := Lib.hid h2
  have hne : (x != 0) = true := by simpa using hx
  clear hn hmax hl h1 h2 hx
  go_enter Try.func14, Try.ntmps14
  go_wp2_with fail
  refine (long_any A n c L _ hR Hn.out HX.out).mono ?_
  rintro e w1 ⟨rfl, rfl⟩
  rw [HL.out]
  go_wp2_with fail
  refine (H1.out _ (Bel.refl _)).mono ?_
  rintro e w2 ⟨rfl, hb2⟩
  go_wp2_with fail
  refine (H2.out _ hb2).mono ?_
  rintro e w3 ⟨rfl, hb3⟩
  have hb23 := hb2.trans hb3
  go_wp2_with fail
  refine (same_any none none 0 0 0 0 [] _ (.inl rfl) (.inl rfl) rfl rfl (by omega)).mono ?_
  rintro e w4 ⟨rfl, hb4⟩
  go_wp2_with fail
  refine (against_x g A n c L _ (hR.bel (hb23.trans hb4)) Hn.out HX.out).mono ?_
  rintro e w5 ⟨A5, n5, c5, rfl, hb5⟩
  go_wp2_with fail
  refine (against_x g none 0 0 [] _ (.inl rfl) rfl (Nat.zero_le _)).mono ?_
  rintro e w6 ⟨A6, n6, c6, rfl, hb6⟩
  go_wp2_with (go_at_call 26; refine (known_any _).mono ?_; rintro e w7 ⟨rfl, hb7⟩)
  go_ret
  exact ⟨rfl, by (repeat (first | exact Bel.refl _ | assumption | refine Bel.drew ?_ | refine Bel.drewN ?_ _ | refine Bel.alloc ?_ _ | refine Bel.setCell ?_ (by first | omega | (simp; done) | (simp; omega) | (simp at *; omega)) _ | refine Bel.trans ?_ (by assumption)))⟩
set_option maxRecDepth 100000 in
theorem inner_long (g : Int) (A : Option Addr) (n c : Nat) (L : List An) (k : Int) (w : World) (hR : Ans w A L) (hn : L.length = n) (hmax : n ≤ maxLen) (hl : longB L = true) :
    Calls Try.prog 14 #[.int .i64 g, .slice A n c, .int .i64 k] w fun e w' => e = .returned (.bool true) ∧ Bel w w' := by
  have HL := Lib.hid hl
  clear hl
  go_enter Try.func14, Try.ntmps14
  go_wp2_with fail
  refine (long_any A n c L _ hR hn hmax).mono ?_
  rintro e w1 ⟨rfl, rfl⟩
  rw [HL.out]
  go_wp2_with (go_at_call 26; refine (known_any _).mono ?_; rintro e w7 ⟨rfl, hb7⟩)
  go_ret
  exact ⟨rfl, by (repeat (first | exact Bel.refl _ | assumption | refine Bel.drew ?_ | refine Bel.drewN ?_ _ | refine Bel.alloc ?_ _ | refine Bel.setCell ?_ (by first | omega | (simp; done) | (simp; omega) | (simp at *; omega)) _ | refine Bel.trans ?_ (by assumption)))⟩

set_option maxRecDepth 100000 in
set_option maxHeartbeats 2000000 in
theorem inner_ok (g : Nat) (A : Option Addr) (n c : Nat) (L : List An) (k : Nat) (w : World) (hR : Ans w A L) (hn : L.length = n) (h12 : n ≤ 12) (hl : longB L = false) (hsh : ∀ a ∈ L, a.1.length ≤ 100) (he : errA (g : Int) L = 0) (hk : k < n) :
    Calls Try.prog 14 #[.int .i64 (g : Int), .slice A n c, .int .i64 (k : Int)] w fun e w' => e = .returned (.bool true) ∧ Bel w w' := by
  obtain ⟨⟨g1, g2⟩, -, -⟩ := errA_zero he
  have Hn := Lib.hid hn; have HL := Lib.hid hl; have HSH := Lib.hid hsh; have HE := Lib.hid he
  have HX := Lib.hid (show n ≤ maxLen by unfold maxLen; omega)
  have HEW := Lib.hid (wo_valid he k)
  have HLW := Lib.hid (erase_len hn hk)
  have HC := Lib.hid (fun i => wo_count L k i)
  obtain ⟨M, hM⟩ : ∃ M, M = L.eraseIdx k := ⟨_, rfl⟩
  rw [← hM] at HEW HLW HC
  have HM := Lib.hid hM
  have hcb := Lib.hid (fun i => cntI_bd L i)
  have hcb2 := Lib.hid (fun i => cntI_bd M i)
  clear hn hl hsh he hM
  go_enter Try.func14, Try.ntmps14
  go_wp2_with fail
  refine (long_any A n c L _ hR Hn.out HX.out).mono ?_
  rintro e w1 ⟨rfl, rfl⟩
  rw [HL.out]
  go_wp2_with fail
  refine (rWithout_ok g A n c L k _ hR Hn.out h12 HSH.out HE.out hk).mono ?_
  rintro e w2 ⟨A2, n2, c2, rfl, hn2, hb2, hA2⟩
  rw [← HM.out] at hn2 hA2
  have HN2 := Lib.hid hn2.symm
  have hn12 : n2 ≤ 12 := by rw [hn2, HLW.out]; omega
  clear hn2
  go_wp2_with fail
  refine (wWithout_ok g A n c L k _ (hR.bel hb2) Hn.out h12 HSH.out HE.out hk).mono ?_
  rintro e w3 ⟨A3, n3, c3, rfl, hn3, hb3, hA3⟩
  rw [← HM.out] at hn3 hA3
  have HN3 := Lib.hid hn3.symm
  clear hn3
  have hb23 := hb2.trans hb3
  go_wp2_with fail
  refine (same_any A3 A2 n3 c3 n2 c2 M _ hA3 (hA2.bel hb3) HN3.out HN2.out (by have := HN3.out; have := HN2.out; omega)).mono ?_
  rintro e w4 ⟨rfl, hb4⟩
  have hb24 := hb23.trans hb4
  go_wp2_with fail
  refine (wAgainst_ok g A n c L _ (hR.bel hb24) Hn.out HX.out HE.out).mono ?_
  rintro e w5 ⟨A5, n5, c5, rfl, hn5, hb5, hI5⟩
  rw [countL_length] at hn5
  have HN5 := Lib.hid hn5
  clear hn5
  go_wp2_with fail
  refine (wAgainst_ok g A3 n3 c3 M _ (hA3.bel (hb4.trans hb5)) HN3.out (by have := HN3.out; have := HN2.out; unfold maxLen; omega) HEW.out).mono ?_
  rintro e w6 ⟨A6, n6, c6, rfl, hn6, hb6, hI6⟩
  rw [countL_length] at hn6
  have HN6 := Lib.hid hn6
  clear hn6
  obtain rfl : n5 = n6 := by rw [HN5.out, HN6.out]
  have hn516 : n5 ≤ 16 := by rw [HN5.out]; omega
  have hbw6 := (hb24.trans hb5).trans hb6
  go_wp2
  go_loopw [15] (fun i wr => ∃ q : Nat, q ≤ n5 ∧ i = .int .i64 q ∧ Bel w6 wr) (fun i _ => n5 - (intOf i).toNat)
  case atStart => exact ⟨0, Nat.zero_le _, rfl, Bel.refl _⟩
  case round =>
    obtain ⟨q, hq, rfl, hb⟩ := hrel
    by_cases hlt : q < n5
    · have hqn : (q : Int) < (n5 : Int) := by omega
      obtain ⟨b, o, v, rfl, hbl, hv, hc⟩ := (hI5.bel (hb6.trans hb)).at_ (k := q) (by rw [countL_length, ← HN5.out]; exact hlt)
      obtain ⟨b2, o2, v2, rfl, hbl2, hv2, hc2⟩ := (hI6.bel hb).at_ (k := q) (by rw [countL_length, ← HN5.out]; exact hlt)
      rw [countL_at (by rw [← HN5.out]; exact hlt)] at hv hv2
      injection hv with hv
      injection hv2 with hv2
      have hd := HC.out q
      have b1 := hcb.out q
      have b2' := hcb2.out q
      rw [hv, hv2] at hd
      rw [hv] at b1
      rw [hv2] at b2'
      have hv9 : v ≤ 12 := by have := Hn.out; omega
      have hv10 : 0 ≤ v := b1.1
      have hv11 : 0 ≤ v2 := b2'.1
      have hv12 : v2 ≤ 12 := by have := HLW.out; omega
      have hq0 : (0 : Int) ≤ (q : Int) := by omega
      clear hv hv2 b1 b2'
      rcases hd with hd | hd
      · obtain rfl : v = v2 := by omega
        have hw0 : IntKind.i64.wrap (v - v) = 0 := by rw [Int.sub_self]; decide
        clear hd
        go_wp2
        go_quiet (fail)
        go_wp2
        go_roundw
        case rel => exact ⟨q + 1, by omega, by go_num, by (repeat (first | exact Bel.refl _ | assumption | refine Bel.drew ?_ | refine Bel.drewN ?_ _ | refine Bel.alloc ?_ _ | refine Bel.setCell ?_ (by first | omega | (simp; done) | (simp; omega) | (simp at *; omega)) _ | refine Bel.trans ?_ (by assumption)))⟩
        case measure => simp [intOf]; omega
      · obtain rfl : v = v2 + 1 := by omega
        have hw0 : IntKind.i64.wrap (v2 + 1 - v2) = 1 := by rw [show v2 + 1 - v2 = 1 by omega]; decide
        clear hd
        go_wp2
        go_quiet (fail)
        go_wp2
        go_roundw
        case rel => exact ⟨q + 1, by omega, by go_num, by (repeat (first | exact Bel.refl _ | assumption | refine Bel.drew ?_ | refine Bel.drewN ?_ _ | refine Bel.alloc ?_ _ | refine Bel.setCell ?_ (by first | omega | (simp; done) | (simp; omega) | (simp at *; omega)) _ | refine Bel.trans ?_ (by assumption)))⟩
        case measure => simp [intOf]; omega
    · obtain rfl : q = n5 := by omega
      go_wp2_with (go_at_call 26; refine (known_any _).mono ?_; rintro e w7 ⟨rfl, hb7⟩)
      go_ret
      exact ⟨rfl, by (repeat (first | exact Bel.refl _ | assumption | refine Bel.drew ?_ | refine Bel.drewN ?_ _ | refine Bel.alloc ?_ _ | refine Bel.setCell ?_ (by first | omega | (simp; done) | (simp; omega) | (simp at *; omega)) _ | refine Bel.trans ?_ (by assumption)))⟩

theorem inner (g : Int) (A : Option Addr) (n c : Nat) (L : List An) (k : Int) (w : World) (hR : Ans w A L) (hn : L.length = n) (hmax : n ≤ maxLen) :
    Calls Try.prog 14 #[.int .i64 g, .slice A n c, .int .i64 k] w fun e w' => e = .returned (.bool true) ∧ Bel w w' := by
  cases hl : longB L
  · by_cases he : errA g L = 0
    · obtain ⟨-, h12, -⟩ := errA_zero he
      by_cases hk : 0 ≤ k ∧ k ≤ (n : Int) - 1
      · obtain ⟨g', rfl, -, -⟩ := errA_nat he
        obtain ⟨k', rfl⟩ : ∃ k' : Nat, k = k' := ⟨k.toNat, by omega⟩
        exact inner_ok g' A n c L k' w hR hn (by omega) hl (long_parts hl).2 he (by omega)
      · exact inner_err g A n c L k 4 w hR hn hmax hl (by decide) (fun w' hb => rWithout_none g A n c L k w' (hR.bel hb) hn (by omega) he hk) (fun w' hb => wWithout_none g A n c L k w' (hR.bel hb) hn hmax he (by omega))
    · exact inner_err g A n c L k (errA g L) w hR hn hmax hl he (fun w' hb => rWithout_err g A n c L k w' (hR.bel hb) hn hmax he) (fun w' hb => wWithout_err g A n c L k w' (hR.bel hb) hn hmax he)
  · exact inner_long g A n c L k w hR hn hmax hl

set_option maxRecDepth 100000 in
set_option maxHeartbeats 1000000 in
theorem walk (g : Int) (A : Option Addr) (n c : Nat) (Z : List AnZ) (k : Int) (w : World) (a : ArgA w A n c Z) :
    Calls Try.prog 5 #[.int .i64 g, .slice A n c, .int .i64 k] w fun e w' => e = .returned (.bool true) ∧ Bel w w' := by
  obtain ⟨e1, e2, e3⟩ := a.els
  have hc9 := (reachN_le a.reach (by omega)).1
  go_enter Try.func5, Try.ntmps5
  go_wp2_with fail
  refine (keepAnswers_any A n c Z _ a.ans a.len a.le a.nil a.reach).mono ?_
  rintro e w1 ⟨A', n', c', rfl, hn', hb1, hr1⟩
  have HN := Lib.hid hn'; clear hn'
  go_wp2_with fail
  refine (inner g A n c _ k _ (e1.bel hb1) e2 e3).mono ?_
  rintro e w2 ⟨rfl, hb2⟩
  have hb02 := hb1.trans hb2
  go_wp2_with fail
  refine (keptAnswers_any A' A n' c' n c Z _ (hr1.bel hb2) (a.ans.bel hb02) HN.out.symm a.len a.le a.nil hc9).mono ?_
  rintro e w3 ⟨rfl, hb3⟩
  go_wp2
  go_ret
  exact ⟨rfl, hb02.trans hb3⟩

set_option maxRecDepth 100000 in
theorem lifted (os : Os) (started : os.Started) (H : Type) (enc : TypeId × Value → H) :
    ReturnsInHanded {} Try.checked os 5 .any (Rows.judgeWithoutSpec.pre6 enc Try.prog Try.f5 Rows.judgeWithoutRow.domain false) (Rows.judgeWithoutSpec.post enc Try.prog Try.f5 false true false false) := by
  refine returnsInHanded_of_change_sized (C := Try.checked) own started (by kernel_rfl) Try.func5
    (ChangeSpec.witness6 (enc := enc) (C := Try.checked) false ⟨#[], #[.int .i64 0, .slice none 0 0, .int .i64 0], []⟩ 8 (by kernel_rfl) (by kernel_rfl) (by kernel_rfl) (by kernel_rfl)) ?_
  intro W base args ds gs before hval0 hW hcnd hsz0 _
  have hval : ∀ (j : Nat) t v, Try.f5.params[j]? = some t → args[j]? = some v → Value.okWide Try.prog W .any base t v := hval0
  have hsz : (DataW.weightsEach Try.prog (Try.f5.params.toList ++ Rows.judgeWithoutSpec.plain.varTypes Try.prog) (ds ++ gs)).all (· ≤ reachBytes) = true := hsz0
  have hW' := hW
  obtain ⟨p, q, hA0, hV, rfl, hfz, hnd⟩ := hW
  have hA : DataW.TrodAll enc Try.prog W 0 (fun _ => true) true Try.f5.params.toList args.toList ds p := hA0
  rw [Try.params5] at hA hval hsz
  obtain ⟨v0, vs0, d0, ds0, p0, q0, hargs, rfl, rfl, h0, r0⟩ := trodAll_cons hA
  obtain ⟨v1, vs1, d1, ds1, p1, q1, rfl, rfl, rfl, h1, r1⟩ := trodAll_cons r0
  obtain ⟨v2, vs2, d2, ds2, p2, q2, rfl, rfl, rfl, h2, r2⟩ := trodAll_cons r1
  obtain ⟨rfl, rfl, rfl⟩ := trodAll_nil r2
  obtain rfl : args = #[v0, v1, v2] := by cases args; simp_all
  obtain ⟨rfl, rfl⟩ := trodVars_none hV
  have k0 := h0
  have lt0 : ∀ x ∈ p0, x.block < W.heap.size := by obtain ⟨m, hm⟩ := k0; exact DataW.trod_lt m _ _ _ hm
  have k1 := h1
  have lt1 : ∀ x ∈ p1, x.block < W.heap.size := by obtain ⟨m, hm⟩ := k1; exact DataW.trod_lt m _ _ _ hm
  have k2 := h2
  have lt2 : ∀ x ∈ p2, x.block < W.heap.size := by obtain ⟨m, hm⟩ := k2; exact DataW.trod_lt m _ _ _ hm
  obtain ⟨x0, rfl, rfl, rfl, w0⟩ := open_int Try.underlying3 (hval 0 3 v0 rfl rfl) h0
  have hr1 : ∀ k ∈ d1.weights Try.prog 22, k ≤ reachN := fun k hk => by rw [← reach_eq]; simpa using List.all_eq_true.1 hsz k (DataW.weights_mem_each (j := 1) rfl rfl k hk)
  obtain ⟨A1, n1, c1, zs1, rfl, a1⟩ := open_argA (hval 1 22 v1 rfl rfl) h1 hr1
  obtain ⟨x2, rfl, rfl, rfl, w2⟩ := open_int Try.underlying3 (hval 2 3 v2 rfl rfl) h2
  clear hA0 hval0
  refine (walk x0 A1 n1 c1 zs1 x2 W a1).mono fun e W' ⟨he, bel⟩ => ?_
  subst he
  exact ⟨_, rfl, _, _, _, [], _, [], hW', trodAll_mk1 (shut_bool Try.underlying4 _), trodAll_cons_mk (shut_int Try.underlying3 w0) (trodAll_cons_mk (Below.trod laidOut (by kernel_rfl) (of_decide_eq_true (by kernel_rfl)) k1 bel lt1) (trodAll_cons_mk (shut_int Try.underlying3 w2) (trodAll_mk0))), rfl, Below.frame bel _, fun h => by cases h⟩

theorem over : Rows.judgeWithoutRow.holds Try.pinned (OpenSpec.ofChange Rows.judgeWithoutSpec) :=
  OpenClaim.holds_of_wide 5 Try.f5 rfl rfl rfl rfl rfl rfl rfl ⟨rfl, rfl, rfl, rfl, rfl⟩ rfl rfl rfl rfl rfl (by kernel_rfl) Try.func5 (by kernel_rfl)
    (of_decide_eq_true (by kernel_rfl)) (by unfold Func.isWrapper; rw [if_neg (of_decide_eq_false (by kernel_rfl))]; exact ⟨rfl, rfl⟩)
    (fun os started H enc _ => lifted os started H enc)

/-- The statement. -/
theorem proved : Rows.JudgeWithoutSaid := over
end Go.Proofs.Ytjcompmmjcefhaa.judgeWithout
