/-
  The statement JudgeNextsSaid: for all records Next returns grades to ask for as long as several are left, and the need is smaller after both answers; the list stays as it was in its spare cells, too, and the known answers come out. No condition.
-/
import Derived.Test.YtogeackcnmeooaaKW
import Derived.Test.YtogeackcnmeooaaQP
namespace Go.Proofs.Ytogeackcnmeooaa.judgeNexts
open Go.ChangeShapes Go.WideShapes Go.ChangeAt Go.RowKit Go.Joins

set_option maxRecDepth 100000 in
set_option maxHeartbeats 2000000 in
theorem inner (g : Int) (A : Option Addr) (n c : Nat) (L : List An) (w : World) (hR : Ans w A L) (hn : L.length = n) (hmax : n ≤ maxLen) :
    Calls Try.prog 42 #[.int .i64 g, .slice A n c] w fun e w' => e = .returned (.bool true) ∧ Bel w w' := by
  have Hn := Lib.hid hn; have HX := Lib.hid hmax
  cases hl : longB L
  · have HL := Lib.hid hl
    clear hl
    by_cases he : errA g L = 0
    · obtain ⟨g, rfl, g1, g2⟩ := errA_nat he
      obtain ⟨-, hl12, -⟩ := errA_zero he
      have HE := Lib.hid he
      by_cases h12 : n = 12
      · subst h12
        clear he hn hmax hl12
        go_enter Try.func42, Try.ntmps42
        go_wp2_with fail
        refine (long_any A 12 c L _ hR Hn.out HX.out).mono ?_
        rintro e w1 ⟨rfl, rfl⟩
        rw [HL.out]
        go_wp2_with fail
        refine (rNextError_full g A c L _ hR Hn.out HE.out).mono ?_
        rintro e w1 ⟨rfl, hb1⟩
        go_wp2_with fail
        refine (wNext_full g A c L _ (hR.bel (by (repeat (first | exact Bel.refl _ | assumption | refine Bel.drew ?_ | refine Bel.drewN ?_ _ | refine Bel.alloc ?_ _ | refine Bel.setCell ?_ (by first | omega | (simp; done) | (simp; omega) | (simp at *; omega)) _ | refine Bel.trans ?_ (by assumption))))) Hn.out HE.out).mono ?_
        rintro e w2 ⟨rfl, hb2⟩
        unfold noNext
        go_wp2_with (go_at_call 26; refine (known_any _).mono ?_; rintro e w7 ⟨rfl, hb7⟩)
        go_ret
        exact ⟨rfl, by (repeat (first | exact Bel.refl _ | assumption | refine Bel.drew ?_ | refine Bel.drewN ?_ _ | refine Bel.alloc ?_ _ | refine Bel.setCell ?_ (by first | omega | (simp; done) | (simp; omega) | (simp at *; omega)) _ | refine Bel.trans ?_ (by assumption)))⟩
      · have hlt : n < 12 := by omega
        clear hn hmax hl12 h12
        by_cases hs : zB L g ≤ 1
        · have HD := Lib.hid (show decide (1 < zB L g) = false by simp; omega)
          have HS := Lib.hid hs
          clear hs he
          go_enter Try.func42, Try.ntmps42
          go_wp2_with fail
          refine (long_any A n c L _ hR Hn.out HX.out).mono ?_
          rintro e w1 ⟨rfl, rfl⟩
          rw [HL.out]
          go_wp2_with fail
          refine (rNextError_ok g A n c L _ hR Hn.out hlt HE.out).mono ?_
          rintro e w1 ⟨rfl, hb1⟩
          rw [HD.out]
          go_wp2_with fail
          refine (wNext_settled g A n c L _ (hR.bel (by (repeat (first | exact Bel.refl _ | assumption | refine Bel.drew ?_ | refine Bel.drewN ?_ _ | refine Bel.alloc ?_ _ | refine Bel.setCell ?_ (by first | omega | (simp; done) | (simp; omega) | (simp at *; omega)) _ | refine Bel.trans ?_ (by assumption))))) Hn.out hlt HE.out HS.out).mono ?_
          rintro e w2 ⟨rfl, hb2⟩
          unfold noNext
          go_wp2_with (go_at_call 26; refine (known_any _).mono ?_; rintro e w7 ⟨rfl, hb7⟩)
          go_ret
          exact ⟨rfl, by (repeat (first | exact Bel.refl _ | assumption | refine Bel.drew ?_ | refine Bel.drewN ?_ _ | refine Bel.alloc ?_ _ | refine Bel.setCell ?_ (by first | omega | (simp; done) | (simp; omega) | (simp at *; omega)) _ | refine Bel.trans ?_ (by assumption)))⟩
        · have HD := Lib.hid (show decide (1 < zB L g) = true by simp; omega)
          have HS := Lib.hid hs
          clear hs he
          go_enter Try.func42, Try.ntmps42
          go_wp2_with fail
          refine (long_any A n c L _ hR Hn.out HX.out).mono ?_
          rintro e w1 ⟨rfl, rfl⟩
          rw [HL.out]
          go_wp2_with fail
          refine (rNextError_ok g A n c L _ hR Hn.out hlt HE.out).mono ?_
          rintro e w1 ⟨rfl, hb1⟩
          rw [HD.out]
          go_wp2_with fail
          refine (wNext_ok g A n c L _ (hR.bel (by (repeat (first | exact Bel.refl _ | assumption | refine Bel.drew ?_ | refine Bel.drewN ?_ _ | refine Bel.alloc ?_ _ | refine Bel.setCell ?_ (by first | omega | (simp; done) | (simp; omega) | (simp at *; omega)) _ | refine Bel.trans ?_ (by assumption))))) Hn.out hlt HE.out HS.out).mono ?_
          rintro e w2 ⟨A1, n1, c1, x, y, rfl, hn1, hb2, hI, hx, hy, h1, hG⟩
          have HN1 := Lib.hid hn1; have HX1 := Lib.hid hx; have HY1 := Lib.hid hy; have H1 := Lib.hid h1; have HG := Lib.hid hG; have HI := Lib.hid hI
          clear hn1 hx hy h1 hG hI
          go_wp2_with fail
          refine (rIsNext_any g A n c L A1 n1 c1 x y _ (hR.bel (by (repeat (first | exact Bel.refl _ | assumption | refine Bel.drew ?_ | refine Bel.drewN ?_ _ | refine Bel.alloc ?_ _ | refine Bel.setCell ?_ (by first | omega | (simp; done) | (simp; omega) | (simp at *; omega)) _ | refine Bel.trans ?_ (by assumption))))) Hn.out hlt HE.out (HI.out.bel (by (repeat (first | exact Bel.refl _ | assumption | refine Bel.drew ?_ | refine Bel.drewN ?_ _ | refine Bel.alloc ?_ _ | refine Bel.setCell ?_ (by first | omega | (simp; done) | (simp; omega) | (simp at *; omega)) _ | refine Bel.trans ?_ (by assumption))))) HN1.out HX1.out HY1.out H1.out HG.out).mono ?_
          rintro e w3 ⟨rfl, hb3⟩
          go_wp2_with (go_at_call 26; refine (known_any _).mono ?_; rintro e w7 ⟨rfl, hb7⟩)
          go_ret
          exact ⟨rfl, by (repeat (first | exact Bel.refl _ | assumption | refine Bel.drew ?_ | refine Bel.drewN ?_ _ | refine Bel.alloc ?_ _ | refine Bel.setCell ?_ (by first | omega | (simp; done) | (simp; omega) | (simp at *; omega)) _ | refine Bel.trans ?_ (by assumption)))⟩
    · have HE := Lib.hid he
      obtain ⟨x, hx⟩ : ∃ x, x = errA g L := ⟨_, rfl⟩
      have hne : (x != 0) = true := by rw [hx]; simpa using he
      have HXX := Lib.hid hx
      clear he hx hn hmax
      go_enter Try.func42, Try.ntmps42
      go_wp2_with fail
      refine (long_any A n c L _ hR Hn.out HX.out).mono ?_
      rintro e w1 ⟨rfl, rfl⟩
      rw [HL.out]
      go_wp2_with fail
      refine (rNextError_err g A n c L _ hR Hn.out HX.out HE.out).mono ?_
      rintro e w1 ⟨rfl, hb1⟩
      rw [← HXX.out]
      go_wp2_with fail
      refine (wNext_err g A n c L _ (hR.bel (by (repeat (first | exact Bel.refl _ | assumption | refine Bel.drew ?_ | refine Bel.drewN ?_ _ | refine Bel.alloc ?_ _ | refine Bel.setCell ?_ (by first | omega | (simp; done) | (simp; omega) | (simp at *; omega)) _ | refine Bel.trans ?_ (by assumption))))) Hn.out HX.out HE.out).mono ?_
      rintro e w2 ⟨rfl, hb2⟩
      unfold noNext
      rw [← HXX.out]
      go_wp2_with (go_at_call 26; refine (known_any _).mono ?_; rintro e w7 ⟨rfl, hb7⟩)
      go_ret
      exact ⟨rfl, by (repeat (first | exact Bel.refl _ | assumption | refine Bel.drew ?_ | refine Bel.drewN ?_ _ | refine Bel.alloc ?_ _ | refine Bel.setCell ?_ (by first | omega | (simp; done) | (simp; omega) | (simp at *; omega)) _ | refine Bel.trans ?_ (by assumption)))⟩
  · have HL := Lib.hid hl
    clear hl hn hmax
    go_enter Try.func42, Try.ntmps42
    go_wp2_with fail
    refine (long_any A n c L _ hR Hn.out HX.out).mono ?_
    rintro e w1 ⟨rfl, rfl⟩
    rw [HL.out]
    go_wp2_with (go_at_call 26; refine (known_any _).mono ?_; rintro e w7 ⟨rfl, hb7⟩)
    go_ret
    exact ⟨rfl, by (repeat (first | exact Bel.refl _ | assumption | refine Bel.drew ?_ | refine Bel.drewN ?_ _ | refine Bel.alloc ?_ _ | refine Bel.setCell ?_ (by first | omega | (simp; done) | (simp; omega) | (simp at *; omega)) _ | refine Bel.trans ?_ (by assumption)))⟩

set_option maxHeartbeats 1000000 in
theorem walk (g : Int) (A : Option Addr) (n c : Nat) (Z : List AnZ) (w : World) (a : ArgA w A n c Z) :
    Calls Try.prog 14 #[.int .i64 g, .slice A n c] w fun e w' => e = .returned (.bool true) ∧ Bel w w' := by
  obtain ⟨e1, e2, e3⟩ := a.els
  have hc9 := (reachN_le a.reach (by omega)).1
  go_enter Try.func14, Try.ntmps14
  go_wp2_with fail
  refine (keepAnswers_any A n c Z _ a.ans a.len a.le a.nil a.reach).mono ?_
  rintro e w1 ⟨A', n', c', rfl, hn', hb1, hr1⟩
  have HN := Lib.hid hn'; clear hn'
  go_wp2_with fail
  refine (inner g A n c _ _ (e1.bel hb1) e2 e3).mono ?_
  rintro e w2 ⟨rfl, hb2⟩
  have hb02 := hb1.trans hb2
  go_wp2_with fail
  refine (keptAnswers_any A' A n' c' n c Z _ (hr1.bel hb2) (a.ans.bel hb02) HN.out.symm a.len a.le a.nil hc9).mono ?_
  rintro e w3 ⟨rfl, hb3⟩
  go_wp2
  go_ret
  exact ⟨rfl, hb02.trans hb3⟩

set_option maxRecDepth 100000 in
theorem lifted (os : Os) (started : os.Started) (H : Type) (enc : TypeId × Value → H) :
    ReturnsInHanded {} Try.checked os 14 .any (Rows.judgeNextsSpec.pre6 enc Try.prog Try.f14 Rows.judgeNextsRow.domain false) (Rows.judgeNextsSpec.post enc Try.prog Try.f14 false true false false) := by
  refine returnsInHanded_of_change_sized (C := Try.checked) own started (by kernel_rfl) Try.func14
    (ChangeSpec.witness6 (enc := enc) (C := Try.checked) false ⟨#[], #[.int .i64 0, .slice none 0 0], []⟩ 8 (by kernel_rfl) (by kernel_rfl) (by kernel_rfl) (by kernel_rfl)) ?_
  intro W base args ds gs before hval0 hW hcnd hsz0 _
  have hval : ∀ (j : Nat) t v, Try.f14.params[j]? = some t → args[j]? = some v → Value.okWide Try.prog W .any base t v := hval0
  have hsz : (DataW.weightsEach Try.prog (Try.f14.params.toList ++ Rows.judgeNextsSpec.plain.varTypes Try.prog) (ds ++ gs)).all (· ≤ reachBytes) = true := hsz0
  have hW' := hW
  obtain ⟨p, q, hA0, hV, rfl, hfz, hnd⟩ := hW
  have hA : DataW.TrodAll enc Try.prog W 0 (fun _ => true) true Try.f14.params.toList args.toList ds p := hA0
  rw [Try.params14] at hA hval hsz
  obtain ⟨v0, vs0, d0, ds0, p0, q0, hargs, rfl, rfl, h0, r0⟩ := trodAll_cons hA
  obtain ⟨v1, vs1, d1, ds1, p1, q1, rfl, rfl, rfl, h1, r1⟩ := trodAll_cons r0
  obtain ⟨rfl, rfl, rfl⟩ := trodAll_nil r1
  obtain rfl : args = #[v0, v1] := by cases args; simp_all
  obtain ⟨rfl, rfl⟩ := trodVars_none hV
  have k0 := h0
  have lt0 : ∀ x ∈ p0, x.block < W.heap.size := by obtain ⟨m, hm⟩ := k0; exact DataW.trod_lt m _ _ _ hm
  have k1 := h1
  have lt1 : ∀ x ∈ p1, x.block < W.heap.size := by obtain ⟨m, hm⟩ := k1; exact DataW.trod_lt m _ _ _ hm
  obtain ⟨x0, rfl, rfl, rfl, w0⟩ := open_int Try.underlying3 (hval 0 3 v0 rfl rfl) h0
  have hr1 : ∀ k ∈ d1.weights Try.prog 22, k ≤ reachN := fun k hk => by rw [← reach_eq]; simpa using List.all_eq_true.1 hsz k (DataW.weights_mem_each (j := 1) rfl rfl k hk)
  obtain ⟨A1, n1, c1, zs1, rfl, a1⟩ := open_argA (hval 1 22 v1 rfl rfl) h1 hr1
  clear hA0 hval0
  refine (walk x0 A1 n1 c1 zs1 W a1).mono fun e W' ⟨he, bel⟩ => ?_
  subst he
  exact ⟨_, rfl, _, _, _, [], _, [], hW', trodAll_mk1 (shut_bool Try.underlying4 _), trodAll_cons_mk (shut_int Try.underlying3 w0) (trodAll_cons_mk (Below.trod laidOut (by kernel_rfl) (of_decide_eq_true (by kernel_rfl)) k1 bel lt1) (trodAll_mk0)), rfl, Below.frame bel _, fun h => by cases h⟩

theorem over : Rows.judgeNextsRow.holds Try.pinned (OpenSpec.ofChange Rows.judgeNextsSpec) :=
  OpenClaim.holds_of_wide 14 Try.f14 rfl rfl rfl rfl rfl rfl rfl ⟨rfl, rfl, rfl, rfl, rfl⟩ rfl rfl rfl rfl rfl (by kernel_rfl) Try.func14 (by kernel_rfl)
    (of_decide_eq_true (by kernel_rfl)) (by unfold Func.isWrapper; rw [if_neg (of_decide_eq_false (by kernel_rfl))]; exact ⟨rfl, rfl⟩)
    (fun os started H enc _ => lifted os started H enc)

/-- The statement. -/
theorem proved : Rows.JudgeNextsSaid := over
end Go.Proofs.Ytogeackcnmeooaa.judgeNexts
