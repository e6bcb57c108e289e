/-
  The statement JudgeTurnsSaid: for all records Turn answers as the document says, in new memory; against each grade there are as many; the list stays as it was in its spare cells, too, and the known answers come out. No condition.
-/
import Derived.Test.YtmamigelifadmaaTE
import Derived.Test.YtmamigelifadmaaQP
namespace Go.Proofs.Ytmamigelifadmaa.judgeTurns
open Go.ChangeShapes Go.WideShapes Go.ChangeAt Go.RowKit Go.Joins

theorem long_parts {L : List An} (h : longB L = false) : L.length ≤ 100 ∧ ∀ a ∈ L, a.1.length ≤ 100 := by
  unfold longB at h
  rw [Bool.or_eq_false_iff] at h
  refine ⟨by have := h.1; rw [decide_eq_false_iff_not] at this; omega, fun a ha => ?_⟩
  have := List.any_eq_false.1 h.2 a ha
  rw [decide_eq_true_eq] at this
  omega
/-- What Against answers, whatever record it is given. -/
def AgAt (g : Int) (L : List An) (w : World) (e : Ending) (w' : World) : Prop := ∃ A n c, e = .returned (.tuple #[.slice A n c, .int .i64 (errA g L)]) ∧ Bel w w'
theorem against_x (g : Int) (A : Option Addr) (n c : Nat) (L : List An) (w : World) (hR : Ans w A L) (hn : L.length = n) (hmax : n ≤ maxLen) :
    Calls Try.prog 17 #[.int .i64 g, .slice A n c] w (AgAt g L w) := by
  by_cases he : errA g L = 0
  · obtain ⟨k, rfl, -, -⟩ := errA_nat he
    refine (wAgainst_ok k A n c L w hR hn hmax he).mono ?_
    rintro e w' ⟨A', n', c', rfl, -, hb, -⟩
    exact ⟨A', n', c', by rw [he], hb⟩
  · refine (wAgainst_err g A n c L w hR hn hmax he).mono ?_
    rintro e w' ⟨rfl, hb⟩
    exact ⟨none, 0, 0, rfl, hb⟩

set_option maxRecDepth 100000 in
theorem inner_long (g : Int) (A : Option Addr) (n c : Nat) (L : List An) (w : World) (hR : Ans w A L) (hn : L.length = n) (hmax : n ≤ maxLen) (hl : longB L = true) :
    Calls Try.prog 6 #[.int .i64 g, .slice A n c] w fun e w' => e = .returned (.bool true) ∧ Bel w w' := by
  have HL := Lib.hid hl
  clear hl
  go_enter Try.func6, Try.ntmps6
  go_wp2_with fail
  refine (long_any A n c L _ hR hn hmax).mono ?_
  rintro e w1 ⟨rfl, rfl⟩
  rw [HL.out]
  go_wp2_with (go_at_call 12; refine (known_any _).mono ?_; rintro e w7 ⟨rfl, hb7⟩)
  go_ret
  exact ⟨rfl, by (repeat (first | exact Bel.refl _ | assumption | refine Bel.drew ?_ | refine Bel.drewN ?_ _ | refine Bel.alloc ?_ _ | refine Bel.setCell ?_ (by first | omega | (simp; done) | (simp; omega) | (simp at *; omega)) _ | refine Bel.trans ?_ (by assumption)))⟩

set_option maxRecDepth 100000 in
set_option maxHeartbeats 2000000 in
theorem inner_err (g : Int) (A : Option Addr) (n c : Nat) (L : List An) (w : World) (hR : Ans w A L) (hn : L.length = n) (hmax : n ≤ maxLen) (hl : longB L = false) (he : errA g L ≠ 0) :
    Calls Try.prog 6 #[.int .i64 g, .slice A n c] w fun e w' => e = .returned (.bool true) ∧ Bel w w' := by
  obtain ⟨hl1, hl2⟩ := long_parts hl
  obtain ⟨x, hx⟩ : ∃ x, x = errA g L := ⟨_, rfl⟩
  have hne : (x != 0) = true := by rw [hx]; simpa using he
  have Hn := Lib.hid hn; have HX := Lib.hid hmax; have HL := Lib.hid hl; have HE := Lib.hid he; have HS := Lib.hid hl2; have HXE := Lib.hid hx
  clear hn hl he hl2 hx
  have hn100 : n ≤ 100 := by have := Hn.out; omega
  go_enter Try.func6, Try.ntmps6
  go_wp2_with fail
  refine (long_any A n c L _ hR Hn.out HX.out).mono ?_
  rintro e w1 ⟨rfl, rfl⟩
  rw [HL.out]
  go_wp2_with fail
  refine (rCopy_any A n c L _ hR Hn.out hn100 HS.out).mono ?_
  rintro e w1 ⟨v1, rfl, hO1, hb1, hs1⟩
  obtain ⟨A1, n1, c1, rfl, hn1, hA1⟩ := hO1.form
  rw [Hn.out] at hn1
  subst n1
  clear hO1
  go_wp2_with fail
  refine (rTurn_err g A n c L _ (hR.bel hb1) Hn.out HX.out HE.out).mono ?_
  rintro e w2 ⟨rfl, hb2⟩
  rw [← HXE.out]
  go_wp2_with fail
  refine (wTurn_err g A1 n c1 L _ (hA1.bel hb2) Hn.out HX.out HE.out).mono ?_
  rintro e w3 ⟨rfl, hb3⟩
  rw [← HXE.out]
  have hb13 := hb2.trans hb3
  go_wp2_with fail
  refine (same_any none none 0 0 0 0 [] _ (.inl rfl) (.inl rfl) rfl rfl (by omega)).mono ?_
  rintro e w4 ⟨rfl, hb4⟩
  go_wp2_with fail
  refine (against_x g A n c L _ (hR.bel (hb1.trans (hb13.trans hb4))) Hn.out HX.out).mono ?_
  rintro e w5 ⟨A5, n5, c5, rfl, hb5⟩
  go_wp2_with fail
  refine (against_x g none 0 0 [] _ (.inl rfl) rfl (Nat.zero_le _)).mono ?_
  rintro e w6 ⟨A6, n6, c6, rfl, hb6⟩
  have hb16 : Bel w1 w6 := (hb13.trans hb4).trans (hb5.trans hb6)
  go_wp2
  go_loopw [15, 16] (fun i _ wr => i = .int .i64 0 ∧ Bel w1 wr) (fun _ _ _ => 0)
  case atStart => exact ⟨rfl, hb16⟩
  case round =>
    obtain ⟨rfl, hb7⟩ := hrel
    go_wp2_with fail
    refine (same_any A1 A n c1 n c L _ (hA1.bel hb7) (hR.bel (hb1.trans hb7)) Hn.out Hn.out hn100).mono ?_
    rintro e w8 ⟨rfl, hb8⟩
    go_wp2_with (go_at_call 12; refine (known_any _).mono ?_; rintro e w7 ⟨rfl, hb7⟩)
    go_ret
    exact ⟨rfl, by (repeat (first | exact Bel.refl _ | assumption | refine Bel.drew ?_ | refine Bel.drewN ?_ _ | refine Bel.alloc ?_ _ | refine Bel.setCell ?_ (by first | omega | (simp; done) | (simp; omega) | (simp at *; omega)) _ | refine Bel.trans ?_ (by assumption)))⟩

set_option maxRecDepth 100000 in
set_option maxHeartbeats 4000000 in
theorem inner_ok (g : Nat) (A : Option Addr) (n c : Nat) (L : List An) (w : World) (hR : Ans w A L) (hn : L.length = n) (hl : longB L = false) (he : errA (g : Int) L = 0) :
    Calls Try.prog 6 #[.int .i64 (g : Int), .slice A n c] w fun e w' => e = .returned (.bool true) ∧ Bel w w' := by
  obtain ⟨hl1, hl2⟩ := long_parts hl
  obtain ⟨⟨g1, g2⟩, h12, -⟩ := errA_zero he
  have Hn := Lib.hid hn; have HX := Lib.hid (show n ≤ maxLen by unfold maxLen; omega); have HL := Lib.hid hl; have HE := Lib.hid he; have HS := Lib.hid hl2
  have HEV := Lib.hid (turnL_valid he)
  have HC := Lib.hid (turnL_count g L)
  have HTL : Hid ((turnL g L).length = n) := by show _ = _; rw [turnL_length, hn]
  have hn12 : n ≤ 12 := by omega
  clear hn hl he hl2 h12 hl1
  have hn100 : n ≤ 100 := by omega
  go_enter Try.func6, Try.ntmps6
  go_wp2_with fail
  refine (long_any A n c L _ hR Hn.out HX.out).mono ?_
  rintro e w1 ⟨rfl, rfl⟩
  rw [HL.out]
  go_wp2_with fail
  refine (rCopy_any A n c L _ hR Hn.out hn100 HS.out).mono ?_
  rintro e w1 ⟨v1, rfl, hO1, hb1, hs1⟩
  obtain ⟨A1, n1, c1, rfl, hn1, hA1⟩ := hO1.form
  rw [Hn.out] at hn1
  subst n1
  clear hO1
  go_wp2_with fail
  refine (rTurn_ok g A n c L _ (hR.bel hb1) Hn.out HE.out).mono ?_
  rintro e w2 ⟨v2, rfl, hO2, hb2⟩
  obtain ⟨A2, n2, c2, rfl, hn2, hA2⟩ := hO2.form
  rw [HTL.out] at hn2
  subst n2
  clear hO2
  go_wp2_with fail
  refine (wTurn_ok g A1 n c1 L _ (hA1.bel hb2) Hn.out HE.out).mono ?_
  rintro e w3 ⟨h, rfl, hz, hb3⟩
  have hA3 := hz.ans HTL.out
  have hq := hz.toQ (base := w1.heap.size) HTL.out hb2.size
  have hb13 := hb2.trans hb3
  clear hz
  go_wp2_with fail
  refine (same_any (some ⟨h, 0, none⟩) A2 n n n c2 (turnL g L) _ hA3 (hA2.bel hb3) HTL.out HTL.out hn100).mono ?_
  rintro e w4 ⟨rfl, hb4⟩
  go_wp2_with fail
  refine (wAgainst_ok g A n c L _ (hR.bel (hb1.trans (hb13.trans hb4))) Hn.out HX.out HE.out).mono ?_
  rintro e w5 ⟨A5, n5, c5, rfl, hn5, hb5, hI5⟩
  rw [countL_length] at hn5
  have HN5 := Lib.hid hn5
  clear hn5
  go_wp2_with fail
  refine (wAgainst_ok g (some ⟨h, 0, none⟩) n n (turnL g L) _ (hA3.bel (hb4.trans hb5)) HTL.out HX.out HEV.out).mono ?_
  rintro e w6 ⟨A6, n6, c6, rfl, hn6, hb6, hI6⟩
  rw [countL_length] at hn6
  rw [HC.out] at hI6
  have HN6 := Lib.hid hn6
  clear hn6
  go_wp2_with fail
  refine (sameInts_any A5 A6 n5 c5 n6 c6 (countL L g) _ (hI5.bel hb6) hI6 (by rw [countL_length, HN5.out]) (by rw [countL_length, HN6.out]) (by rw [HN5.out]; unfold maxLen; omega)).mono ?_
  rintro e w7 ⟨rfl, hb7⟩
  have hb37 : Bel w3 w7 := (hb4.trans hb5).trans (hb6.trans hb7)
  have hq7 := hq.bel hb37
  have hb17 := hb13.trans hb37
  clear hq hI5 hI6 hA3 hA2
  go_wp2
  go_loopw [15, 16] (fun i _ wr => ∃ j : Nat, j ≤ n ∧ i = .int .i64 j ∧ Bel w1 wr ∧ HeadQ w1.heap.size wr h n) (fun i _ _ => n - (intOf i).toNat)
  case atStart => exact ⟨0, Nat.zero_le _, rfl, hb17, hq7⟩
  case round =>
    clear hq7 hb17 hb37
    obtain ⟨j, hj, rfl, hb8, hq8⟩ := hrel
    by_cases hlt : j < n
    · have hjn : (j : Int) < (n : Int) := by omega
      have hj0 : (0 : Int) ≤ (j : Int) := by omega
      obtain ⟨A', n', c', hc, hm', -⟩ := hq8.els j hlt
      have hm9 : n' ≤ 9223372036854775807 := by unfold maxLen at hm'; omega
      go_wp2
      go_loopw [16] (fun i wr => ∃ q : Nat, q ≤ n' ∧ i = .int .i64 q ∧ Bel w1 wr ∧ HeadQ w1.heap.size wr h n ∧ wr.cell? ⟨h, j * 2, none⟩ = some (.slice A' n' c')) (fun i _ => n' - (intOf i).toNat)
      case atStart => exact ⟨0, Nat.zero_le _, rfl, hb8, hq8, hc⟩
      case round =>
        clear hc hq8 hb8
        obtain ⟨q, hq, rfl, hb9, hq9, hc9⟩ := hrel
        by_cases hqn : q < n'
        · obtain ⟨A2', n2', c2', hc2, -, hrow⟩ := hq9.els j hlt
          rw [hc9] at hc2
          injection hc2 with hc2
          injection hc2 with e1 e2 e3
          subst e1 e2 e3
          obtain ⟨b, o, rfl, k1, k2, k3, ⟨v, k4⟩, k5⟩ := hrow q hqn
          have hqi : (q : Int) < (n' : Int) := by omega
          have hq0 : (0 : Int) ≤ (q : Int) := by omega
          clear hrow
          go_wp2
          go_roundw
          case rel => exact ⟨q + 1, by omega, by go_num, hb9.setCell k1 _, hq9.put k3 _, by rw [World.cell?_setCell_other _ _ _ _ (fun e => k3 (by have := congrArg Addr.block e; first | exact this | exact this.symm))]; exact hc9⟩
          case measure => simp [intOf]; omega
        · obtain rfl : q = n' := by omega
          go_wp2
          go_roundw
          case rel => exact ⟨j + 1, by omega, by go_num, hb9, hq9⟩
          case measure => simp [intOf]; omega
    · obtain rfl : j = n := by omega
      go_wp2_with fail
      refine (same_any A1 A j c1 j c L _ (hA1.bel hb8) (hR.bel (hb1.trans hb8)) Hn.out Hn.out hn100).mono ?_
      rintro e w9 ⟨rfl, hb9⟩
      go_wp2_with (go_at_call 12; refine (known_any _).mono ?_; rintro e w7 ⟨rfl, hb7⟩)
      go_ret
      exact ⟨rfl, by (repeat (first | exact Bel.refl _ | assumption | refine Bel.drew ?_ | refine Bel.drewN ?_ _ | refine Bel.alloc ?_ _ | refine Bel.setCell ?_ (by first | omega | (simp; done) | (simp; omega) | (simp at *; omega)) _ | refine Bel.trans ?_ (by assumption)))⟩

theorem inner (g : Int) (A : Option Addr) (n c : Nat) (L : List An) (w : World) (hR : Ans w A L) (hn : L.length = n) (hmax : n ≤ maxLen) :
    Calls Try.prog 6 #[.int .i64 g, .slice A n c] w fun e w' => e = .returned (.bool true) ∧ Bel w w' := by
  cases hl : longB L
  · by_cases he : errA g L = 0
    · obtain ⟨g', rfl, -, -⟩ := errA_nat he
      exact inner_ok g' A n c L w hR hn hl he
    · exact inner_err g A n c L w hR hn hmax hl he
  · exact inner_long g A n c L w hR hn hmax hl

set_option maxRecDepth 100000 in
set_option maxHeartbeats 1000000 in
theorem walk (g : Int) (A : Option Addr) (n c : Nat) (Z : List AnZ) (w : World) (a : ArgA w A n c Z) :
    Calls Try.prog 3 #[.int .i64 g, .slice A n c] w fun e w' => e = .returned (.bool true) ∧ Bel w w' := by
  obtain ⟨e1, e2, e3⟩ := a.els
  have hc9 := (reachN_le a.reach (by omega)).1
  go_enter Try.func3, Try.ntmps3
  go_wp2_with fail
  refine (keepAnswers_any A n c Z _ a.ans a.len a.le a.nil a.reach).mono ?_
  rintro e w1 ⟨A', n', c', rfl, hn', hb1, hr1⟩
  have HN := Lib.hid hn'; clear hn'
  go_wp2_with fail
  refine (inner g A n c _ _ (e1.bel hb1) e2 e3).mono ?_
  rintro e w2 ⟨rfl, hb2⟩
  have hb02 := hb1.trans hb2
  go_wp2_with fail
  refine (keptAnswers_any A' A n' c' n c Z _ (hr1.bel hb2) (a.ans.bel hb02) HN.out.symm a.len a.le a.nil hc9).mono ?_
  rintro e w3 ⟨rfl, hb3⟩
  go_wp2
  go_ret
  exact ⟨rfl, hb02.trans hb3⟩

set_option maxRecDepth 100000 in
theorem lifted (os : Os) (started : os.Started) (H : Type) (enc : TypeId × Value → H) :
    ReturnsInHanded {} Try.checked os 3 .any (Rows.judgeTurnsSpec.pre6 enc Try.prog Try.f3 Rows.judgeTurnsRow.domain false) (Rows.judgeTurnsSpec.post enc Try.prog Try.f3 false true false false) := by
  refine returnsInHanded_of_change_sized (C := Try.checked) own started (by kernel_rfl) Try.func3
    (ChangeSpec.witness6 (enc := enc) (C := Try.checked) false ⟨#[], #[.int .i64 0, .slice none 0 0], []⟩ 8 (by kernel_rfl) (by kernel_rfl) (by kernel_rfl) (by kernel_rfl)) ?_
  intro W base args ds gs before hval0 hW hcnd hsz0 _
  have hval : ∀ (j : Nat) t v, Try.f3.params[j]? = some t → args[j]? = some v → Value.okWide Try.prog W .any base t v := hval0
  have hsz : (DataW.weightsEach Try.prog (Try.f3.params.toList ++ Rows.judgeTurnsSpec.plain.varTypes Try.prog) (ds ++ gs)).all (· ≤ reachBytes) = true := hsz0
  have hW' := hW
  obtain ⟨p, q, hA0, hV, rfl, hfz, hnd⟩ := hW
  have hA : DataW.TrodAll enc Try.prog W 0 (fun _ => true) true Try.f3.params.toList args.toList ds p := hA0
  rw [Try.params3] at hA hval hsz
  obtain ⟨v0, vs0, d0, ds0, p0, q0, hargs, rfl, rfl, h0, r0⟩ := trodAll_cons hA
  obtain ⟨v1, vs1, d1, ds1, p1, q1, rfl, rfl, rfl, h1, r1⟩ := trodAll_cons r0
  obtain ⟨rfl, rfl, rfl⟩ := trodAll_nil r1
  obtain rfl : args = #[v0, v1] := by cases args; simp_all
  obtain ⟨rfl, rfl⟩ := trodVars_none hV
  have k0 := h0
  have lt0 : ∀ x ∈ p0, x.block < W.heap.size := by obtain ⟨m, hm⟩ := k0; exact DataW.trod_lt m _ _ _ hm
  have k1 := h1
  have lt1 : ∀ x ∈ p1, x.block < W.heap.size := by obtain ⟨m, hm⟩ := k1; exact DataW.trod_lt m _ _ _ hm
  obtain ⟨x0, rfl, rfl, rfl, w0⟩ := open_int Try.underlying3 (hval 0 3 v0 rfl rfl) h0
  have hr1 : ∀ k ∈ d1.weights Try.prog 22, k ≤ reachN := fun k hk => by rw [← reach_eq]; simpa using List.all_eq_true.1 hsz k (DataW.weights_mem_each (j := 1) rfl rfl k hk)
  obtain ⟨A1, n1, c1, zs1, rfl, a1⟩ := open_argA (hval 1 22 v1 rfl rfl) h1 hr1
  clear hA0 hval0
  refine (walk x0 A1 n1 c1 zs1 W a1).mono fun e W' ⟨he, bel⟩ => ?_
  subst he
  exact ⟨_, rfl, _, _, _, [], _, [], hW', trodAll_mk1 (shut_bool Try.underlying4 _), trodAll_cons_mk (shut_int Try.underlying3 w0) (trodAll_cons_mk (Below.trod laidOut (by kernel_rfl) (of_decide_eq_true (by kernel_rfl)) k1 bel lt1) (trodAll_mk0)), rfl, Below.frame bel _, fun h => by cases h⟩

theorem over : Rows.judgeTurnsRow.holds Try.pinned (OpenSpec.ofChange Rows.judgeTurnsSpec) :=
  OpenClaim.holds_of_wide 3 Try.f3 rfl rfl rfl rfl rfl rfl rfl ⟨rfl, rfl, rfl, rfl, rfl⟩ rfl rfl rfl rfl rfl (by kernel_rfl) Try.func3 (by kernel_rfl)
    (of_decide_eq_true (by kernel_rfl)) (by unfold Func.isWrapper; rw [if_neg (of_decide_eq_false (by kernel_rfl))]; exact ⟨rfl, rfl⟩)
    (fun os started H enc _ => lifted os started H enc)

/-- The statement. -/
theorem proved : Rows.JudgeTurnsSaid := over
end Go.Proofs.Ytmamigelifadmaa.judgeTurns
