/-
  The statement WeighBadsSaid: for all numbers of lots and plans there is a proof exactly if the plan does not tell, and the one that Bad returns is one; the lists stay as they were in their spare cells, too, and the known answers come out. No condition.
-/
import Derived.Test.YtmckoehkekkldaaAE
import Derived.Test.YtmckoehkekkldaaZ
namespace Go.Proofs.Ytmckoehkekkldaa.weighBads
open Go.ChangeShapes Go.WideShapes Go.ChangeAt Go.RowKit Go.Joins

theorem found_err {n i j : Nat} {P : List Wg} (hG : Good n P) (hij : i ≤ j) (hj : j < n * 2) (hb : badAt P i j = true) : errB (n : Int) P (lotN i : Int) (wayN i) (lotN j : Int) (wayN j) = 0 := by
  have hi1 : lotN i < n := by unfold lotN; omega
  have hj1 : lotN j < n := by unfold lotN; omega
  have h1 : [((lotN i : Int), wayN i), ((lotN j : Int), wayN j)].all (lotOk (n : Int)) = true := by
    simp only [List.all_cons, List.all_nil, Bool.and_true, Bool.and_eq_true, lotOk, decide_eq_true_eq]
    omega
  have h2 : [((lotN i : Int), wayN i), ((lotN j : Int), wayN j)].all wayOk = true := by
    simp only [List.all_cons, List.all_nil, Bool.and_true, Bool.and_eq_true, wayOk, decide_eq_true_eq]
    exact ⟨wayN_or i, wayN_or j⟩
  have h3 : errC (n : Int) P [((lotN i : Int), wayN i), ((lotN j : Int), wayN j)] = 0 := by rw [errC_way hG.err h1, if_pos h2]
  unfold errB
  rw [if_pos h3]
  unfold badAt at hb
  rw [if_pos hb]
set_option maxRecDepth 100000 in
set_option maxHeartbeats 4000000 in
theorem inner (n : Int) (A : Option Addr) (m c : Nat) (P : List Wg) (w : World) (hR : Plan 0 w A P) (hm : P.length = m) (hmax : m ≤ maxLen) :
    Calls Try.prog 29 #[.int .i64 n, .slice A m c] w fun e w' => e = .returned (.bool true) ∧ Bel w w' := by
  have Hm := Lib.hid hm
  clear hm
  by_cases h0 : errV n P = 0
  · obtain ⟨n', rfl, hG⟩ := errV_good h0
    have HG := Lib.hid hG
    have HE := Lib.hid h0
    have HTV : Hid (tellV P (n' : Int) = tellB P n') := by show _ = _; unfold tellV; rw [if_pos h0]; rfl
    clear hG h0
    go_enter Try.func29, Try.ntmps29
    go_wp2_with fail
    refine (long_any 0 A m c P _ hR Hm.out hmax).mono ?_
    rintro e w1 ⟨⟨bl, rfl⟩, hw1⟩
    subst hw1
    cases bl with
    | true =>
      go_wp2_with fail
      refine (known_any _).mono ?_
      rintro e w9 ⟨rfl, hb9⟩
      go_wp2
      go_ret
      exact ⟨rfl, hb9⟩
    | false =>
      go_wp2_with fail
      refine (rTells_any 0 _ A m c P _ hR Hm.out).mono ?_
      rintro e w2 ⟨rfl, hb2⟩
      rw [HE.out, HTV.out]
      go_wp2_with fail
      refine (bad_ok 0 n' A m c P _ (hR.bel hb2) Hm.out HG.out).mono ?_
      rintro e w3 ⟨hv, hb3⟩
      have hB3 := hb2.trans hb3
      rcases hv with ⟨i, j, hij, hj, hbad, rfl⟩ | ⟨hno, rfl⟩
      · have HF := Lib.hid (found_err HG.out hij hj hbad)
        have HT : Hid (tellB P n' = false) := by
          cases hb : tellB P n'
          · rfl
          · have := tells_noBad (tellB_iff.1 hb) i j hij hj
            rw [this] at hbad
            cases hbad
        rw [HT.out]
        clear hbad hij hj
        go_wp2_with fail
        refine (rCheckBad_any 0 _ A m c P _ _ _ _ _ (hR.bel (by (repeat (first | exact Bel.refl _ | assumption | refine Bel.drew ?_ | refine Bel.drewN ?_ _ | refine Bel.alloc ?_ _ | refine Bel.setCell ?_ (by first | omega | (simp; done) | (simp; omega) | (simp at *; omega)) _ | refine Bel.trans ?_ (by assumption))))) Hm.out).mono ?_
        rintro e w4 ⟨rfl, hb4⟩
        rw [HF.out]
        go_wp2_with fail
        refine (known_any _).mono ?_
        rintro e w9 ⟨rfl, hb9⟩
        go_wp2
        go_ret
        exact ⟨rfl, by (repeat (first | exact Bel.refl _ | assumption | refine Bel.drew ?_ | refine Bel.drewN ?_ _ | refine Bel.alloc ?_ _ | refine Bel.setCell ?_ (by first | omega | (simp; done) | (simp; omega) | (simp at *; omega)) _ | refine Bel.trans ?_ (by assumption)))⟩
      · have HT : Hid (tellB P n' = true) := tellB_iff.2 (noBad_tells hno)
        rw [HT.out]
        clear hno
        go_wp2_with fail
        refine (known_any _).mono ?_
        rintro e w9 ⟨rfl, hb9⟩
        go_wp2
        go_ret
        exact ⟨rfl, by (repeat (first | exact Bel.refl _ | assumption | refine Bel.drew ?_ | refine Bel.drewN ?_ _ | refine Bel.alloc ?_ _ | refine Bel.setCell ?_ (by first | omega | (simp; done) | (simp; omega) | (simp at *; omega)) _ | refine Bel.trans ?_ (by assumption)))⟩
  · have h0' : (errV n P != 0) = true := by simpa using h0
    have HTV : Hid (tellV P n = false) := by show _ = _; unfold tellV; rw [if_neg h0]
    have HN := Lib.hid h0
    obtain ⟨ev, hev⟩ : ∃ z, z = errV n P := ⟨_, rfl⟩
    have HEV := Lib.hid hev
    rw [← hev] at h0 h0'
    have hx1 : (ev != ev) = false := by simp
    have hx2 : (ev == 0) = false := by simpa using h0
    clear hev
    go_enter Try.func29, Try.ntmps29
    go_wp2_with fail
    refine (long_any 0 A m c P _ hR Hm.out hmax).mono ?_
    rintro e w1 ⟨⟨bl, rfl⟩, hw1⟩
    subst hw1
    cases bl with
    | true =>
      go_wp2_with fail
      refine (known_any _).mono ?_
      rintro e w9 ⟨rfl, hb9⟩
      go_wp2
      go_ret
      exact ⟨rfl, hb9⟩
    | false =>
      go_wp2_with fail
      refine (rTells_any 0 n A m c P _ hR Hm.out).mono ?_
      rintro e w2 ⟨rfl, hb2⟩
      rw [← HEV.out, HTV.out]
      go_wp2_with fail
      refine (bad_err 0 n A m c P _ (hR.bel hb2) Hm.out HN.out).mono ?_
      rintro e w3 ⟨rfl, hb3⟩
      rw [← HEV.out]
      go_wp2_with fail
      refine (known_any _).mono ?_
      rintro e w9 ⟨rfl, hb9⟩
      go_wp2
      go_ret
      exact ⟨rfl, by (repeat (first | exact Bel.refl _ | assumption | refine Bel.drew ?_ | refine Bel.drewN ?_ _ | refine Bel.alloc ?_ _ | refine Bel.setCell ?_ (by first | omega | (simp; done) | (simp; omega) | (simp at *; omega)) _ | refine Bel.trans ?_ (by assumption)))⟩

set_option maxRecDepth 100000 in
set_option maxHeartbeats 1000000 in
theorem walk (n : Int) (A : Option Addr) (m c : Nat) (Z : List WgZ) (w : World) (hx : ArgP w A m c Z) :
    Calls Try.prog 10 #[.int .i64 n, .slice A m c] w fun e w' => e = .returned (.bool true) ∧ Bel w w' := by
  obtain ⟨x1, x2, x3⟩ := hx.els
  go_enter Try.func10, Try.ntmps10
  go_wp2_with fail
  refine (keepWeighings_any A m c Z _ hx).mono ?_
  rintro e w1 ⟨A', n', c', rfl, hn', hb1, hr1⟩
  have HN := Lib.hid hn'; clear hn'
  go_wp2_with fail
  refine (inner n A m c _ _ (x1.bel hb1) x2 x3).mono ?_
  rintro e w2 ⟨rfl, hb2⟩
  go_wp2_with fail
  refine (keptWeighings_any A' A n' c' m c Z _ ((hr1.low (Nat.zero_le _)).bel hb2) (hx.bel (hb1.trans hb2)) HN.out).mono ?_
  rintro e w3 ⟨rfl, hb3⟩
  go_wp2
  go_ret
  exact ⟨rfl, (hb1.trans hb2).trans hb3⟩

set_option maxRecDepth 100000 in
theorem lifted (os : Os) (started : os.Started) (H : Type) (enc : TypeId × Value → H) :
    ReturnsInHanded {} Try.checked os 10 .any (Rows.weighBadsSpec.pre6 enc Try.prog Try.f10 Rows.weighBadsRow.domain false) (Rows.weighBadsSpec.post enc Try.prog Try.f10 false true false false) := by
  refine returnsInHanded_of_change_sized (C := Try.checked) own started (by kernel_rfl) Try.func10
    (ChangeSpec.witness6 (enc := enc) (C := Try.checked) false ⟨#[], #[.int .i64 0, .slice none 0 0], []⟩ 8 (by kernel_rfl) (by kernel_rfl) (by kernel_rfl) (by kernel_rfl)) ?_
  intro W base args ds gs before hval0 hW hcnd hsz0 _
  have hval : ∀ (j : Nat) t v, Try.f10.params[j]? = some t → args[j]? = some v → Value.okWide Try.prog W .any base t v := hval0
  have hsz : (DataW.weightsEach Try.prog (Try.f10.params.toList ++ Rows.weighBadsSpec.plain.varTypes Try.prog) (ds ++ gs)).all (· ≤ reachBytes) = true := hsz0
  have hW' := hW
  obtain ⟨p, q, hA0, hV, rfl, hfz, hnd⟩ := hW
  have hA : DataW.TrodAll enc Try.prog W 0 (fun _ => true) true Try.f10.params.toList args.toList ds p := hA0
  rw [Try.params10] at hA hval hsz
  obtain ⟨v0, vs0, d0, ds0, p0, q0, hargs, rfl, rfl, h0, r0⟩ := trodAll_cons hA
  obtain ⟨v1, vs1, d1, ds1, p1, q1, rfl, rfl, rfl, h1, r1⟩ := trodAll_cons r0
  obtain ⟨rfl, rfl, rfl⟩ := trodAll_nil r1
  obtain rfl : args = #[v0, v1] := by cases args; simp_all
  obtain ⟨rfl, rfl⟩ := trodVars_none hV
  have k0 := h0
  have lt0 : ∀ x ∈ p0, x.block < W.heap.size := by obtain ⟨m, hm⟩ := k0; exact DataW.trod_lt m _ _ _ hm
  have k1 := h1
  have lt1 : ∀ x ∈ p1, x.block < W.heap.size := by obtain ⟨m, hm⟩ := k1; exact DataW.trod_lt m _ _ _ hm
  obtain ⟨x0, rfl, rfl, rfl, w0⟩ := open_int Try.underlying3 (hval 0 3 v0 rfl rfl) h0
  have hr1 : ∀ k ∈ d1.weights Try.prog 22, k ≤ reachN := fun k hk => by rw [← reach_eq]; simpa using List.all_eq_true.1 hsz k (DataW.weights_mem_each (j := 1) rfl rfl k hk)
  obtain ⟨A1, n1, c1, zs1, rfl, a1⟩ := open_argW (hval 1 22 v1 rfl rfl) h1 hr1
  clear hA0 hval0
  refine (walk x0 A1 n1 c1 zs1 W a1).mono fun e W' ⟨he, bel⟩ => ?_
  subst he
  exact ⟨_, rfl, _, _, _, [], _, [], hW', trodAll_mk1 (shut_bool Try.underlying4 _), trodAll_cons_mk (shut_int Try.underlying3 w0) (trodAll_cons_mk (Below.trod laidOut (by kernel_rfl) (of_decide_eq_true (by kernel_rfl)) k1 bel lt1) (trodAll_mk0)), rfl, Below.frame bel _, fun h => by cases h⟩

theorem over : Rows.weighBadsRow.holds Try.pinned (OpenSpec.ofChange Rows.weighBadsSpec) :=
  OpenClaim.holds_of_wide 10 Try.f10 rfl rfl rfl rfl rfl rfl rfl ⟨rfl, rfl, rfl, rfl, rfl⟩ rfl rfl rfl rfl rfl (by kernel_rfl) Try.func10 (by kernel_rfl)
    (of_decide_eq_true (by kernel_rfl)) (by unfold Func.isWrapper; rw [if_neg (of_decide_eq_false (by kernel_rfl))]; exact ⟨rfl, rfl⟩)
    (fun os started H enc _ => lifted os started H enc)

/-- The statement. -/
theorem proved : Rows.WeighBadsSaid := over
end Go.Proofs.Ytmckoehkekkldaa.weighBads
