/-
  The statement JudgeRenamesSaid: for all records and lists of new numbers Rename answers as the document says; as many answers are against a grade as against its new number before; the lists stay as they were in their spare cells, too, and the known answers come out. No condition.
-/
import Derived.Test.YtmklpldmgmjlkaaTJ
import Derived.Test.YtmklpldmgmjlkaaQP
import Derived.Test.YtmklpldmgmjlkaaKH
namespace Go.Proofs.Ytmklpldmgmjlkaa.judgeRenames
open Go.ChangeShapes Go.WideShapes Go.ChangeAt Go.RowKit Go.Joins

/-- What Against answers, whatever record it is given. -/
def AgAt (g : Int) (L : List An) (w : World) (e : Ending) (w' : World) : Prop := ∃ A n c, e = .returned (.tuple #[.slice A n c, .int .i64 (errA g L)]) ∧ Bel w w'
theorem against_x (g : Int) (A : Option Addr) (n c : Nat) (L : List An) (w : World) (hR : Ans w A L) (hn : L.length = n) (hmax : n ≤ maxLen) :
    Calls Try.prog 14 #[.int .i64 g, .slice A n c] w (AgAt g L w) := by
  by_cases he : errA g L = 0
  · obtain ⟨k, rfl, -, -⟩ := errA_nat he
    refine (wAgainst_ok k A n c L w hR hn hmax he).mono ?_
    rintro e w' ⟨A', n', c', rfl, -, hb, -⟩
    exact ⟨A', n', c', by rw [he], hb⟩
  · refine (wAgainst_err g A n c L w hR hn hmax he).mono ?_
    rintro e w' ⟨rfl, hb⟩
    exact ⟨none, 0, 0, rfl, hb⟩
theorem countL_at (L : List An) {g x : Nat} (hx : x < g) : (countL L g)[x]? = some (cntI L x) := by simp [countL, hx]

set_option maxRecDepth 100000 in
set_option maxHeartbeats 2000000 in
theorem inner_long (g : Int) (A : Option Addr) (n c : Nat) (L : List An) (B : Option Addr) (q d : Nat) (w : World) (hR : Ans w A L) (hn : L.length = n) (hmax : n ≤ maxLen) (hl : longB L = true ∨ q > 100) :
    Calls Try.prog 6 #[.int .i64 g, .slice A n c, .slice B q d] w fun e w' => e = .returned (.bool true) ∧ Bel w w' := by
  cases hlb : longB L
  · have HL := Lib.hid hlb
    have hq100 : q > 100 := by
      rcases hl with h | h
      · rw [hlb] at h; cases h
      · exact h
    have hqi : (q : Int) > 100 := by omega
    clear hl hlb
    go_enter Try.func6, Try.ntmps6
    go_wp2_with fail
    refine (long_any A n c L _ hR hn hmax).mono ?_
    rintro e w1 ⟨rfl, rfl⟩
    rw [HL.out]
    go_wp2_with (go_at_call 10; refine (known_any _).mono ?_; rintro e w7 ⟨rfl, hb7⟩)
    go_ret
    exact ⟨rfl, by (repeat (first | exact Bel.refl _ | assumption | refine Bel.drew ?_ | refine Bel.drewN ?_ _ | refine Bel.alloc ?_ _ | refine Bel.setCell ?_ (by first | omega | (simp; done) | (simp; omega) | (simp at *; omega)) _ | refine Bel.trans ?_ (by assumption)))⟩
  · have HL := Lib.hid hlb
    clear hl hlb
    go_enter Try.func6, Try.ntmps6
    go_wp2_with fail
    refine (long_any A n c L _ hR hn hmax).mono ?_
    rintro e w1 ⟨rfl, rfl⟩
    rw [HL.out]
    go_wp2_with (go_at_call 10; refine (known_any _).mono ?_; rintro e w7 ⟨rfl, hb7⟩)
    go_ret
    exact ⟨rfl, by (repeat (first | exact Bel.refl _ | assumption | refine Bel.drew ?_ | refine Bel.drewN ?_ _ | refine Bel.alloc ?_ _ | refine Bel.setCell ?_ (by first | omega | (simp; done) | (simp; omega) | (simp at *; omega)) _ | refine Bel.trans ?_ (by assumption)))⟩

set_option maxRecDepth 100000 in
set_option maxHeartbeats 2000000 in
theorem inner_err (g : Int) (A : Option Addr) (n c : Nat) (L : List An) (B : Option Addr) (q d : Nat) (to : List Int) (w : World) (hR : Ans w A L) (hn : L.length = n) (hmax : n ≤ maxLen) (hJ : Ints w B to) (hq : to.length = q) (hq100 : ¬ q > 100) (hl : longB L = false) (he : errN g L to ≠ 0) :
    Calls Try.prog 6 #[.int .i64 g, .slice A n c, .slice B q d] w fun e w' => e = .returned (.bool true) ∧ Bel w w' := by
  obtain ⟨x, hx⟩ : ∃ x, x = errN g L to := ⟨_, rfl⟩
  have hne : (x != 0) = true := by rw [hx]; simpa using he
  have Hn := Lib.hid hn; have HX := Lib.hid hmax; have HL := Lib.hid hl; have HE := Lib.hid he; have HXE := Lib.hid hx; have Hq := Lib.hid hq
  obtain ⟨v1, hv1⟩ : ∃ x, x = errA g L := ⟨_, rfl⟩
  obtain ⟨v2, hv2⟩ : ∃ x, x = errA g [] := ⟨_, rfl⟩
  have HV1 := Lib.hid hv1; have HV2 := Lib.hid hv2
  have hqi : ¬ (q : Int) > 100 := by omega
  have hqx : q ≤ maxLen := by unfold maxLen; omega
  clear hn hl he hx hq hv1 hv2
  go_enter Try.func6, Try.ntmps6
  go_wp2_with fail
  refine (long_any A n c L _ hR Hn.out HX.out).mono ?_
  rintro e w1 ⟨rfl, rfl⟩
  rw [HL.out]
  go_wp2_with fail
  refine (rRename_err g A n c L B q d to _ hR Hn.out HX.out hJ Hq.out hqx HE.out).mono ?_
  rintro e w2 ⟨rfl, hb2⟩
  rw [← HXE.out]
  go_wp2_with fail
  refine (rename_err g A n c L B q d to _ (hR.bel hb2) Hn.out HX.out (hJ.bel hb2) Hq.out hqx HE.out).mono ?_
  rintro e w3 ⟨rfl, hb3⟩
  rw [← HXE.out]
  have hb13 := hb2.trans hb3
  go_wp2_with fail
  refine (same_any none none 0 0 0 0 [] _ (.inl rfl) (.inl rfl) rfl rfl (by omega)).mono ?_
  rintro e w4 ⟨rfl, hb4⟩
  go_wp2_with fail
  refine (against_x g A n c L _ (hR.bel (hb13.trans hb4)) Hn.out HX.out).mono ?_
  rintro e w5 ⟨A5, n5, c5, rfl, hb5⟩
  rw [← HV1.out]
  go_wp2_with fail
  refine (against_x g none 0 0 [] _ (.inl rfl) rfl (Nat.zero_le _)).mono ?_
  rintro e w6 ⟨A6, n6, c6, rfl, hb6⟩
  rw [← HV2.out]
  have hb16 : Bel w w6 := (hb13.trans hb4).trans (hb5.trans hb6)
  go_wp2_with (go_at_call 10; refine (known_any _).mono ?_; rintro e w7 ⟨rfl, hb7⟩)
  go_ret
  exact ⟨rfl, by (repeat (first | exact Bel.refl _ | assumption | refine Bel.drew ?_ | refine Bel.drewN ?_ _ | refine Bel.alloc ?_ _ | refine Bel.setCell ?_ (by first | omega | (simp; done) | (simp; omega) | (simp at *; omega)) _ | refine Bel.trans ?_ (by assumption)))⟩

set_option maxRecDepth 100000 in
set_option maxHeartbeats 4000000 in
theorem inner_ok (g : Nat) (A : Option Addr) (n c : Nat) (L : List An) (B : Option Addr) (d : Nat) (to : List Int) (w : World) (hR : Ans w A L) (hn : L.length = n) (hJ : Ints w B to) (hl : longB L = false) (he : errA (g : Int) L = 0) (hN : Renum g to) :
    Calls Try.prog 6 #[.int .i64 (g : Int), .slice A n c, .slice B g d] w fun e w' => e = .returned (.bool true) ∧ Bel w w' := by
  obtain ⟨⟨g1, g2⟩, h12, -⟩ := errA_zero he
  have Hn := Lib.hid hn; have HX := Lib.hid (show n ≤ maxLen by unfold maxLen; omega); have HL := Lib.hid hl; have HE := Lib.hid he; have HN := Lib.hid hN
  have HEV := Lib.hid (renL_valid (to := to) he)
  have HTL : Hid ((renL to g L).length = n) := by show _ = _; rw [renL_length, hn]
  have HCN := Lib.hid (fun x (hx : x < g) => renL_cnt (to := to) (errA_sets he) hN hx)
  have hn12 : n ≤ 12 := by omega
  have hg16 : g ≤ 16 := by omega
  have hqi : ¬ (g : Int) > 100 := by omega
  have hgg : ((g : Int) != (g : Int)) = false := by simp
  clear hn hl he h12 hN
  have hn100 : n ≤ 100 := by omega
  go_enter Try.func6, Try.ntmps6
  go_wp2_with fail
  refine (long_any A n c L _ hR Hn.out HX.out).mono ?_
  rintro e w1 ⟨rfl, rfl⟩
  rw [HL.out]
  go_wp2_with fail
  refine (rRename_ok g A n c L B d to _ hR Hn.out HE.out hJ HN.out).mono ?_
  rintro e w2 ⟨v2, rfl, hO2, hb2⟩
  obtain ⟨A2, n2, c2, rfl, hn2, hA2⟩ := hO2.form
  rw [HTL.out] at hn2
  subst n2
  clear hO2
  go_wp2_with fail
  refine (rename_ok g A n c L B d to _ (hR.bel hb2) Hn.out HE.out (hJ.bel hb2) HN.out).mono ?_
  rintro e w3 ⟨h, rfl, hz, hb3⟩
  have hA3 := hz.ans HTL.out
  have hb13 := hb2.trans hb3
  clear hz
  go_wp2_with fail
  refine (same_any (some ⟨h, 0, none⟩) A2 n n n c2 (renL to g L) _ hA3 (hA2.bel hb3) HTL.out HTL.out hn100).mono ?_
  rintro e w4 ⟨rfl, hb4⟩
  go_wp2_with fail
  refine (wAgainst_ok g A n c L _ (hR.bel (hb13.trans hb4)) Hn.out HX.out HE.out).mono ?_
  rintro e w5 ⟨A5, n5, c5, rfl, hn5, hb5, hI5⟩
  rw [countL_length] at hn5
  subst n5
  go_wp2_with fail
  refine (wAgainst_ok g (some ⟨h, 0, none⟩) n n (renL to g L) _ (hA3.bel (hb4.trans hb5)) HTL.out HX.out HEV.out).mono ?_
  rintro e w6 ⟨A6, n6, c6, rfl, hn6, hb6, hI6⟩
  rw [countL_length] at hn6
  subst n6
  have hb16 : Bel w w6 := (hb13.trans hb4).trans (hb5.trans hb6)
  have hI56 := hI5.bel hb6
  clear hA2 hA3 hI5
  go_wp2
  go_loopw [15] (fun i wr => ∃ k : Nat, k ≤ g ∧ i = .int .i64 k ∧ Bel w6 wr) (fun i _ => g - (intOf i).toNat)
  case atStart => exact ⟨0, Nat.zero_le _, rfl, Bel.refl _⟩
  case round =>
    obtain ⟨k, hk, rfl, hb7⟩ := hrel
    by_cases hlt : k < g
    · obtain ⟨hat, hyn⟩ := HN.out.at_ hlt
      obtain ⟨b1, o1, z, rfl, hl1, hg1, hc1⟩ := (hI56.bel hb7).at_ (k := k) (by rw [countL_length]; exact hlt)
      rw [countL_at L hlt] at hg1
      obtain ⟨b2, o2, y, rfl, hl2, hg2, hc2⟩ := (hJ.bel (hb16.trans hb7)).at_ (k := k) (by rw [HN.out.len]; exact hlt)
      rw [hat] at hg2
      obtain ⟨t, ht⟩ : ∃ t, t = toN to k := ⟨_, rfl⟩
      rw [← ht] at hyn hg2
      obtain rfl : (t : Int) = y := Option.some.inj hg2
      obtain ⟨b3, o3, u, rfl, hl3, hg3, hc3⟩ := (hI6.bel hb7).at_ (k := t) (by rw [countL_length]; exact hyn)
      rw [countL_at _ hyn, ht, HCN.out k hlt, hg1] at hg3
      obtain rfl : z = u := Option.some.inj hg3
      have hki : (k : Int) < (g : Int) := by omega
      have hk0 : (0 : Int) ≤ (k : Int) := by omega
      have hti : (t : Int) < (g : Int) := by omega
      have ht0 : (0 : Int) ≤ (t : Int) := by omega
      have hzz : (z != z) = false := by simp
      clear hat hg1 hg2 hg3 ht
      go_wp2
      go_region
      go_wp2
      go_roundw
      case rel => exact ⟨k + 1, by omega, by go_num, by (repeat (first | exact Bel.refl _ | assumption | refine Bel.drew ?_ | refine Bel.drewN ?_ _ | refine Bel.alloc ?_ _ | refine Bel.setCell ?_ (by first | omega | (simp; done) | (simp; omega) | (simp at *; omega)) _ | refine Bel.trans ?_ (by assumption)))⟩
      case measure => simp [intOf]; omega
    · obtain rfl : g = k := by omega
      have hb17 := hb16.trans hb7
      go_wp2_with (go_at_call 10; refine (known_any _).mono ?_; rintro e w7 ⟨rfl, hb7⟩)
      go_ret
      exact ⟨rfl, by (repeat (first | exact Bel.refl _ | assumption | refine Bel.drew ?_ | refine Bel.drewN ?_ _ | refine Bel.alloc ?_ _ | refine Bel.setCell ?_ (by first | omega | (simp; done) | (simp; omega) | (simp at *; omega)) _ | refine Bel.trans ?_ (by assumption)))⟩

theorem inner (g : Int) (A : Option Addr) (n c : Nat) (L : List An) (B : Option Addr) (q d : Nat) (to : List Int) (w : World) (hR : Ans w A L) (hn : L.length = n) (hmax : n ≤ maxLen) (hJ : Ints w B to) (hq : to.length = q) :
    Calls Try.prog 6 #[.int .i64 g, .slice A n c, .slice B q d] w fun e w' => e = .returned (.bool true) ∧ Bel w w' := by
  by_cases hl : longB L = true ∨ q > 100
  · exact inner_long g A n c L B q d w hR hn hmax hl
  · have h1 : longB L = false := by
      cases h : longB L
      · rfl
      · exact absurd (.inl h) hl
    have h2 : ¬ q > 100 := fun h => hl (.inr h)
    by_cases he : errN g L to = 0
    · obtain ⟨h3, k, rfl, hN⟩ := errN_parts he
      obtain rfl : q = k := by rw [← hq]; exact hN.len
      exact inner_ok q A n c L B d to w hR hn hJ h1 h3 hN
    · exact inner_err g A n c L B q d to w hR hn hmax hJ hq h2 h1 he

set_option maxRecDepth 100000 in
set_option maxHeartbeats 1000000 in
theorem walk (g : Int) (A : Option Addr) (n c : Nat) (Z : List AnZ) (B : Option Addr) (q d : Nat) (zs : List Int) (w : World) (a : ArgA w A n c Z) (hy : ArgI w B q d zs) :
    Calls Try.prog 3 #[.int .i64 g, .slice A n c, .slice B q d] w fun e w' => e = .returned (.bool true) ∧ Bel w w' := by
  obtain ⟨e1, e2, e3⟩ := a.els
  obtain ⟨y1, y2, -⟩ := hy.els
  have hc9 := (reachN_le a.reach (by omega)).1
  have hd9 := (reachN_le hy.reach (by omega)).1
  go_enter Try.func3, Try.ntmps3
  go_wp2_with fail
  refine (keepAnswers_any A n c Z _ a.ans a.len a.le a.nil a.reach).mono ?_
  rintro e w1 ⟨A', n', c', rfl, hn', hb1, hr1⟩
  have HN := Lib.hid hn'; clear hn'
  go_wp2_with fail
  refine (keepInts_any B q d zs _ (hy.ints.bel hb1) hy.len hy.le hy.nil hy.reach).mono ?_
  rintro e w2 ⟨B', q', d', rfl, hq', hb2, hr2, -⟩
  have HQ := Lib.hid hq'; clear hq'
  have hB2 := hb1.trans hb2
  go_wp2_with fail
  refine (inner g A n c _ B q d _ _ (e1.bel hB2) e2 e3 (y1.bel hB2) y2).mono ?_
  rintro e w3 ⟨rfl, hb3⟩
  have hb03 := hB2.trans hb3
  go_wp2_with fail
  refine (keptAnswers_any A' A n' c' n c Z _ (hr1.bel (hb2.trans hb3)) (a.ans.bel hb03) HN.out.symm a.len a.le a.nil hc9).mono ?_
  rintro e w4 ⟨rfl, hb4⟩
  go_wp2_with fail
  refine (keptInts_any B' B q' d' q d zs _ (hr2.bel (hb3.trans hb4)) (hy.ints.bel (hb03.trans hb4)) HQ.out.symm hy.len hy.le hy.nil hd9).mono ?_
  rintro e w5 ⟨rfl, hb5⟩
  go_wp2
  go_ret
  exact ⟨rfl, (hb03.trans hb4).trans hb5⟩

set_option maxRecDepth 100000 in
theorem lifted (os : Os) (started : os.Started) (H : Type) (enc : TypeId × Value → H) :
    ReturnsInHanded {} Try.checked os 3 .any (Rows.judgeRenamesSpec.pre6 enc Try.prog Try.f3 Rows.judgeRenamesRow.domain false) (Rows.judgeRenamesSpec.post enc Try.prog Try.f3 false true false false) := by
  refine returnsInHanded_of_change_sized (C := Try.checked) own started (by kernel_rfl) Try.func3
    (ChangeSpec.witness6 (enc := enc) (C := Try.checked) false ⟨#[], #[.int .i64 0, .slice none 0 0, .slice none 0 0], []⟩ 8 (by kernel_rfl) (by kernel_rfl) (by kernel_rfl) (by kernel_rfl)) ?_
  intro W base args ds gs before hval0 hW hcnd hsz0 _
  have hval : ∀ (j : Nat) t v, Try.f3.params[j]? = some t → args[j]? = some v → Value.okWide Try.prog W .any base t v := hval0
  have hsz : (DataW.weightsEach Try.prog (Try.f3.params.toList ++ Rows.judgeRenamesSpec.plain.varTypes Try.prog) (ds ++ gs)).all (· ≤ reachBytes) = true := hsz0
  have hW' := hW
  obtain ⟨p, q, hA0, hV, rfl, hfz, hnd⟩ := hW
  have hA : DataW.TrodAll enc Try.prog W 0 (fun _ => true) true Try.f3.params.toList args.toList ds p := hA0
  rw [Try.params3] at hA hval hsz
  obtain ⟨v0, vs0, d0, ds0, p0, q0, hargs, rfl, rfl, h0, r0⟩ := trodAll_cons hA
  obtain ⟨v1, vs1, d1, ds1, p1, q1, rfl, rfl, rfl, h1, r1⟩ := trodAll_cons r0
  obtain ⟨v2, vs2, d2, ds2, p2, q2, rfl, rfl, rfl, h2, r2⟩ := trodAll_cons r1
  obtain ⟨rfl, rfl, rfl⟩ := trodAll_nil r2
  obtain rfl : args = #[v0, v1, v2] := by cases args; simp_all
  obtain ⟨rfl, rfl⟩ := trodVars_none hV
  have k0 := h0
  have lt0 : ∀ x ∈ p0, x.block < W.heap.size := by obtain ⟨m, hm⟩ := k0; exact DataW.trod_lt m _ _ _ hm
  have k1 := h1
  have lt1 : ∀ x ∈ p1, x.block < W.heap.size := by obtain ⟨m, hm⟩ := k1; exact DataW.trod_lt m _ _ _ hm
  have k2 := h2
  have lt2 : ∀ x ∈ p2, x.block < W.heap.size := by obtain ⟨m, hm⟩ := k2; exact DataW.trod_lt m _ _ _ hm
  obtain ⟨x0, rfl, rfl, rfl, w0⟩ := open_int Try.underlying3 (hval 0 3 v0 rfl rfl) h0
  have hr1 : ∀ k ∈ d1.weights Try.prog 22, k ≤ reachN := fun k hk => by rw [← reach_eq]; simpa using List.all_eq_true.1 hsz k (DataW.weights_mem_each (j := 1) rfl rfl k hk)
  obtain ⟨A1, n1, c1, zs1, rfl, a1⟩ := open_argA (hval 1 22 v1 rfl rfl) h1 hr1
  have hr2 : ∀ k ∈ d2.weights Try.prog 23, k ≤ reachN := fun k hk => by rw [← reach_eq]; simpa using List.all_eq_true.1 hsz k (DataW.weights_mem_each (j := 2) rfl rfl k hk)
  obtain ⟨A2, n2, c2, zs2, rfl, a2⟩ := open_argI (hval 2 23 v2 rfl rfl) h2 hr2
  clear hA0 hval0
  refine (walk x0 A1 n1 c1 zs1 A2 n2 c2 zs2 W a1 a2).mono fun e W' ⟨he, bel⟩ => ?_
  subst he
  exact ⟨_, rfl, _, _, _, [], _, [], hW', trodAll_mk1 (shut_bool Try.underlying4 _), trodAll_cons_mk (shut_int Try.underlying3 w0) (trodAll_cons_mk (Below.trod laidOut (by kernel_rfl) (of_decide_eq_true (by kernel_rfl)) k1 bel lt1) (trodAll_cons_mk (Below.trod laidOut (by kernel_rfl) (of_decide_eq_true (by kernel_rfl)) k2 bel lt2) (trodAll_mk0))), rfl, Below.frame bel _, fun h => by cases h⟩

theorem over : Rows.judgeRenamesRow.holds Try.pinned (OpenSpec.ofChange Rows.judgeRenamesSpec) :=
  OpenClaim.holds_of_wide 3 Try.f3 rfl rfl rfl rfl rfl rfl rfl ⟨rfl, rfl, rfl, rfl, rfl⟩ rfl rfl rfl rfl rfl (by kernel_rfl) Try.func3 (by kernel_rfl)
    (of_decide_eq_true (by kernel_rfl)) (by unfold Func.isWrapper; rw [if_neg (of_decide_eq_false (by kernel_rfl))]; exact ⟨rfl, rfl⟩)
    (fun os started H enc _ => lifted os started H enc)

/-- The statement. -/
theorem proved : Rows.JudgeRenamesSaid := over
end Go.Proofs.Ytmklpldmgmjlkaa.judgeRenames
