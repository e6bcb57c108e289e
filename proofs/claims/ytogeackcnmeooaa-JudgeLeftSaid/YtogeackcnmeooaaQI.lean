/-
  The statement JudgeLeftSaid: for all records and numbers Left and Grade answer as the document says, with more false answers no fewer grades are left, the list stays as it was in its spare cells, too, and the known answers come out. No condition.
-/
import Derived.Test.YtogeackcnmeooaaKM
import Derived.Test.YtogeackcnmeooaaQP
namespace Go.Proofs.Ytogeackcnmeooaa.judgeLeft
open Go.ChangeShapes Go.WideShapes Go.ChangeAt Go.RowKit Go.Joins

theorem gradeV_form (l : List Int) : ∃ x b, gradeV l = .tuple #[.int .i64 x, .bool b, .int .i64 0] := by
  by_cases h : l.length = 1
  · match l, h with
    | [x], _ => exact ⟨x, true, rfl⟩
  · exact ⟨0, false, gradeV_no h⟩
theorem left_more {L : List An} {g : Nat} {lies v : Int} (h : v ∈ leftL L g lies) : v ∈ leftL L g (lies + 1) := by
  unfold leftL at h ⊢
  simp only [List.mem_map, List.mem_filter, decide_eq_true_eq] at h ⊢
  obtain ⟨i, ⟨h1, h2⟩, h3⟩ := h
  exact ⟨i, ⟨h1, by omega⟩, h3⟩

set_option maxRecDepth 100000 in
set_option maxHeartbeats 4000000 in
theorem inner (g : Int) (A : Option Addr) (n c : Nat) (L : List An) (lies : Int) (w : World) (hR : Ans w A L) (hn : L.length = n) (hmax : n ≤ maxLen) :
    Calls Try.prog 22 #[.int .i64 g, .slice A n c, .int .i64 lies] w fun e w' => e = .returned (.bool true) ∧ Bel w w' := by
  have Hn := Lib.hid hn; have HX := Lib.hid hmax
  clear hn hmax
  cases hl : longB L
  · have HL := Lib.hid hl
    clear hl
    by_cases he : errA g L = 0
    · obtain ⟨g, rfl, g1, g2⟩ := errA_nat he
      have HE := Lib.hid he
      obtain ⟨xg, bg, hgv⟩ := gradeV_form (leftL L g 1)
      have HGV := Lib.hid hgv
      by_cases hb12 : 0 ≤ lies ∧ lies ≤ 12
      · have HLE := Lib.hid (errL_ok he hb12)
        have hll := leftL_len L g lies
        have hmx : (leftL L g lies).length ≤ maxLen := by unfold maxLen; omega
        have HMX := Lib.hid hmx
        obtain ⟨k1, k2⟩ := hb12
        by_cases h12 : lies < 12
        · have HLE2 := Lib.hid (errL_ok (lies := lies + 1) he ⟨by omega, by omega⟩)
          clear he hgv hmx
          (go_enter Try.func22, Try.ntmps22; go_wp2_with fail; refine (long_any A n c L _ hR Hn.out HX.out).mono ?_; rintro e w1 ⟨rfl, rfl⟩; rw [HL.out]; go_wp2_with fail; refine (rLeft_ok g A n c L lies _ hR Hn.out HX.out HLE.out).mono ?_; rintro e w1 ⟨A1, n1, c1, rfl, hn1, hb1, hI1⟩; have HN1 := Lib.hid hn1; clear hn1; go_wp2_with fail; refine (rGrade_ok g A n c L _ (hR.bel (by (repeat (first | exact Bel.refl _ | assumption | refine Bel.drew ?_ | refine Bel.drewN ?_ _ | refine Bel.alloc ?_ _ | refine Bel.setCell ?_ (by first | omega | (simp; done) | (simp; omega) | (simp at *; omega)) _ | refine Bel.trans ?_ (by assumption))))) Hn.out HX.out HE.out).mono ?_; rintro e w2 ⟨rfl, hb2⟩; rw [HGV.out]; go_wp2_with fail; refine (wLeft_ok g A n c L lies _ (hR.bel (by (repeat (first | exact Bel.refl _ | assumption | refine Bel.drew ?_ | refine Bel.drewN ?_ _ | refine Bel.alloc ?_ _ | refine Bel.setCell ?_ (by first | omega | (simp; done) | (simp; omega) | (simp at *; omega)) _ | refine Bel.trans ?_ (by assumption))))) Hn.out HX.out HLE.out).mono ?_; rintro e w3 ⟨A3, n3, c3, rfl, hn3, hb3, hI3⟩; have HN3 := Lib.hid hn3; clear hn3; go_wp2_with fail; refine (wGrade_ok g A n c L _ (hR.bel (by (repeat (first | exact Bel.refl _ | assumption | refine Bel.drew ?_ | refine Bel.drewN ?_ _ | refine Bel.alloc ?_ _ | refine Bel.setCell ?_ (by first | omega | (simp; done) | (simp; omega) | (simp at *; omega)) _ | refine Bel.trans ?_ (by assumption))))) Hn.out HX.out HE.out).mono ?_; rintro e w4 ⟨rfl, hb4⟩; rw [HGV.out]; go_wp2_with fail; refine (sameInts_any A3 A1 n3 c3 n1 c1 _ _ (hI3.bel (by (repeat (first | exact Bel.refl _ | assumption | refine Bel.drew ?_ | refine Bel.drewN ?_ _ | refine Bel.alloc ?_ _ | refine Bel.setCell ?_ (by first | omega | (simp; done) | (simp; omega) | (simp at *; omega)) _ | refine Bel.trans ?_ (by assumption))))) (hI1.bel (by (repeat (first | exact Bel.refl _ | assumption | refine Bel.drew ?_ | refine Bel.drewN ?_ _ | refine Bel.alloc ?_ _ | refine Bel.setCell ?_ (by first | omega | (simp; done) | (simp; omega) | (simp at *; omega)) _ | refine Bel.trans ?_ (by assumption))))) HN3.out.symm HN1.out.symm (by rw [HN3.out]; exact HMX.out)).mono ?_; rintro e w5 ⟨rfl, hb5⟩)
          go_wp2_with fail
          refine (wLeft_ok g A n c L (lies + 1) _ (hR.bel (by (repeat (first | exact Bel.refl _ | assumption | refine Bel.drew ?_ | refine Bel.drewN ?_ _ | refine Bel.alloc ?_ _ | refine Bel.setCell ?_ (by first | omega | (simp; done) | (simp; omega) | (simp at *; omega)) _ | refine Bel.trans ?_ (by assumption))))) Hn.out HX.out HLE2.out).mono ?_
          rintro e w6 ⟨A6, n6, c6, rfl, hn6, hb6, hI6⟩
          have hI3' := hI3.bel ((hb4.trans hb5).trans hb6)
          have hb06 : Bel w w6 := by (repeat (first | exact Bel.refl _ | assumption | refine Bel.drew ?_ | refine Bel.drewN ?_ _ | refine Bel.alloc ?_ _ | refine Bel.setCell ?_ (by first | omega | (simp; done) | (simp; omega) | (simp at *; omega)) _ | refine Bel.trans ?_ (by assumption)))
          have HN6 := Lib.hid hn6
          have hn3i : n3 ≤ 16 := by rw [HN3.out]; omega
          have hmx6 : n6 ≤ maxLen := by
            have := leftL_len L g (lies + 1)
            rw [hn6]
            unfold maxLen
            omega
          have HM6 := Lib.hid hmx6
          clear hn6 hmx6 hb1 hb2 hb3 hb4 hb5 hb6 hI1 hI3
          go_wp2
          go_loopw [19] (fun i wr => ∃ k : Nat, k ≤ n3 ∧ i = .int .i64 k ∧ Bel w6 wr) (fun i _ => n3 - (intOf i).toNat)
          case atStart => exact ⟨0, Nat.zero_le _, rfl, Bel.refl _⟩
          case round =>
            obtain ⟨k, hk, rfl, hb⟩ := hrel
            by_cases hlt : k < n3
            · obtain ⟨b, o, v, hA3, hbl, hgk, hc1⟩ := (hI3'.bel hb).at_ (k := k) (by rw [← HN3.out]; exact hlt)
              subst hA3
              have HT := Lib.hid (hasB_iff.2 (left_more (List.mem_of_getElem? hgk)))
              have hkn : (k : Int) < (n3 : Int) := by omega
              clear hgk
              go_wp2_with fail
              refine (has_any A6 n6 c6 _ v _ (hI6.bel (by (repeat (first | exact Bel.refl _ | assumption | refine Bel.drew ?_ | refine Bel.drewN ?_ _ | refine Bel.alloc ?_ _ | refine Bel.setCell ?_ (by first | omega | (simp; done) | (simp; omega) | (simp at *; omega)) _ | refine Bel.trans ?_ (by assumption))))) HN6.out.symm HM6.out).mono ?_
              rintro e w7 ⟨rfl, rfl⟩
              rw [HT.out]
              go_wp2
              go_roundw
              case rel => exact ⟨k + 1, by omega, by go_num, by (repeat (first | exact Bel.refl _ | assumption | refine Bel.drew ?_ | refine Bel.drewN ?_ _ | refine Bel.alloc ?_ _ | refine Bel.setCell ?_ (by first | omega | (simp; done) | (simp; omega) | (simp at *; omega)) _ | refine Bel.trans ?_ (by assumption)))⟩
              case measure => simp [intOf]; omega
            · obtain rfl : k = n3 := by omega
              go_wp2_with (go_at_call 26; refine (known_any _).mono ?_; rintro e w7 ⟨rfl, hb7⟩)
              go_ret
              exact ⟨rfl, by (repeat (first | exact Bel.refl _ | assumption | refine Bel.drew ?_ | refine Bel.drewN ?_ _ | refine Bel.alloc ?_ _ | refine Bel.setCell ?_ (by first | omega | (simp; done) | (simp; omega) | (simp at *; omega)) _ | refine Bel.trans ?_ (by assumption)))⟩
        · have h13 : 12 ≤ lies := by omega
          clear he hgv hmx
          (go_enter Try.func22, Try.ntmps22; go_wp2_with fail; refine (long_any A n c L _ hR Hn.out HX.out).mono ?_; rintro e w1 ⟨rfl, rfl⟩; rw [HL.out]; go_wp2_with fail; refine (rLeft_ok g A n c L lies _ hR Hn.out HX.out HLE.out).mono ?_; rintro e w1 ⟨A1, n1, c1, rfl, hn1, hb1, hI1⟩; have HN1 := Lib.hid hn1; clear hn1; go_wp2_with fail; refine (rGrade_ok g A n c L _ (hR.bel (by (repeat (first | exact Bel.refl _ | assumption | refine Bel.drew ?_ | refine Bel.drewN ?_ _ | refine Bel.alloc ?_ _ | refine Bel.setCell ?_ (by first | omega | (simp; done) | (simp; omega) | (simp at *; omega)) _ | refine Bel.trans ?_ (by assumption))))) Hn.out HX.out HE.out).mono ?_; rintro e w2 ⟨rfl, hb2⟩; rw [HGV.out]; go_wp2_with fail; refine (wLeft_ok g A n c L lies _ (hR.bel (by (repeat (first | exact Bel.refl _ | assumption | refine Bel.drew ?_ | refine Bel.drewN ?_ _ | refine Bel.alloc ?_ _ | refine Bel.setCell ?_ (by first | omega | (simp; done) | (simp; omega) | (simp at *; omega)) _ | refine Bel.trans ?_ (by assumption))))) Hn.out HX.out HLE.out).mono ?_; rintro e w3 ⟨A3, n3, c3, rfl, hn3, hb3, hI3⟩; have HN3 := Lib.hid hn3; clear hn3; go_wp2_with fail; refine (wGrade_ok g A n c L _ (hR.bel (by (repeat (first | exact Bel.refl _ | assumption | refine Bel.drew ?_ | refine Bel.drewN ?_ _ | refine Bel.alloc ?_ _ | refine Bel.setCell ?_ (by first | omega | (simp; done) | (simp; omega) | (simp at *; omega)) _ | refine Bel.trans ?_ (by assumption))))) Hn.out HX.out HE.out).mono ?_; rintro e w4 ⟨rfl, hb4⟩; rw [HGV.out]; go_wp2_with fail; refine (sameInts_any A3 A1 n3 c3 n1 c1 _ _ (hI3.bel (by (repeat (first | exact Bel.refl _ | assumption | refine Bel.drew ?_ | refine Bel.drewN ?_ _ | refine Bel.alloc ?_ _ | refine Bel.setCell ?_ (by first | omega | (simp; done) | (simp; omega) | (simp at *; omega)) _ | refine Bel.trans ?_ (by assumption))))) (hI1.bel (by (repeat (first | exact Bel.refl _ | assumption | refine Bel.drew ?_ | refine Bel.drewN ?_ _ | refine Bel.alloc ?_ _ | refine Bel.setCell ?_ (by first | omega | (simp; done) | (simp; omega) | (simp at *; omega)) _ | refine Bel.trans ?_ (by assumption))))) HN3.out.symm HN1.out.symm (by rw [HN3.out]; exact HMX.out)).mono ?_; rintro e w5 ⟨rfl, hb5⟩)
          go_wp2_with (go_at_call 26; refine (known_any _).mono ?_; rintro e w7 ⟨rfl, hb7⟩)
          go_ret
          exact ⟨rfl, by (repeat (first | exact Bel.refl _ | assumption | refine Bel.drew ?_ | refine Bel.drewN ?_ _ | refine Bel.alloc ?_ _ | refine Bel.setCell ?_ (by first | omega | (simp; done) | (simp; omega) | (simp at *; omega)) _ | refine Bel.trans ?_ (by assumption)))⟩
      · have HLN := Lib.hid (show errL (g : Int) L lies ≠ 0 by rw [errL_lies he hb12]; omega)
        have HLV := Lib.hid (errL_lies he hb12)
        clear he hgv hb12
        go_enter Try.func22, Try.ntmps22
        go_wp2_with fail
        refine (long_any A n c L _ hR Hn.out HX.out).mono ?_
        rintro e w1 ⟨rfl, rfl⟩
        rw [HL.out]
        go_wp2_with fail
        refine (rLeft_err g A n c L lies _ hR Hn.out HX.out HLN.out).mono ?_
        rintro e w1 ⟨rfl, hb1⟩
        rw [HLV.out]
        go_wp2_with fail
        refine (rGrade_ok g A n c L _ (hR.bel (by (repeat (first | exact Bel.refl _ | assumption | refine Bel.drew ?_ | refine Bel.drewN ?_ _ | refine Bel.alloc ?_ _ | refine Bel.setCell ?_ (by first | omega | (simp; done) | (simp; omega) | (simp at *; omega)) _ | refine Bel.trans ?_ (by assumption))))) Hn.out HX.out HE.out).mono ?_
        rintro e w2 ⟨rfl, hb2⟩
        rw [HGV.out]
        go_wp2_with fail
        refine (wLeft_err g A n c L lies _ (hR.bel (by (repeat (first | exact Bel.refl _ | assumption | refine Bel.drew ?_ | refine Bel.drewN ?_ _ | refine Bel.alloc ?_ _ | refine Bel.setCell ?_ (by first | omega | (simp; done) | (simp; omega) | (simp at *; omega)) _ | refine Bel.trans ?_ (by assumption))))) Hn.out HX.out HLN.out).mono ?_
        rintro e w3 ⟨rfl, hb3⟩
        rw [HLV.out]
        go_wp2_with fail
        refine (wGrade_ok g A n c L _ (hR.bel (by (repeat (first | exact Bel.refl _ | assumption | refine Bel.drew ?_ | refine Bel.drewN ?_ _ | refine Bel.alloc ?_ _ | refine Bel.setCell ?_ (by first | omega | (simp; done) | (simp; omega) | (simp at *; omega)) _ | refine Bel.trans ?_ (by assumption))))) Hn.out HX.out HE.out).mono ?_
        rintro e w4 ⟨rfl, hb4⟩
        rw [HGV.out]
        go_wp2_with fail
        refine (sameInts_any none none 0 0 0 0 [] _ (.inl rfl) (.inl rfl) rfl rfl (by decide)).mono ?_
        rintro e w5 ⟨rfl, hb5⟩
        go_wp2_with (go_at_call 26; refine (known_any _).mono ?_; rintro e w7 ⟨rfl, hb7⟩)
        go_ret
        exact ⟨rfl, by (repeat (first | exact Bel.refl _ | assumption | refine Bel.drew ?_ | refine Bel.drewN ?_ _ | refine Bel.alloc ?_ _ | refine Bel.setCell ?_ (by first | omega | (simp; done) | (simp; omega) | (simp at *; omega)) _ | refine Bel.trans ?_ (by assumption)))⟩
    · have HE := Lib.hid he
      have HLN := Lib.hid (show errL g L lies ≠ 0 by rw [errL_bad he]; exact he)
      obtain ⟨x, hx⟩ : ∃ x, x = errA g L := ⟨_, rfl⟩
      have hne : (x != 0) = true := by rw [hx]; simpa using he
      have HLV := Lib.hid (show errL g L lies = x by rw [errL_bad he, hx])
      have HXX := Lib.hid hx
      clear he hx
      go_enter Try.func22, Try.ntmps22
      go_wp2_with fail
      refine (long_any A n c L _ hR Hn.out HX.out).mono ?_
      rintro e w1 ⟨rfl, rfl⟩
      rw [HL.out]
      go_wp2_with fail
      refine (rLeft_err g A n c L lies _ hR Hn.out HX.out HLN.out).mono ?_
      rintro e w1 ⟨rfl, hb1⟩
      rw [HLV.out]
      go_wp2_with fail
      refine (rGrade_err g A n c L _ (hR.bel (by (repeat (first | exact Bel.refl _ | assumption | refine Bel.drew ?_ | refine Bel.drewN ?_ _ | refine Bel.alloc ?_ _ | refine Bel.setCell ?_ (by first | omega | (simp; done) | (simp; omega) | (simp at *; omega)) _ | refine Bel.trans ?_ (by assumption))))) Hn.out HX.out HE.out).mono ?_
      rintro e w2 ⟨rfl, hb2⟩
      rw [← HXX.out]
      go_wp2_with fail
      refine (wLeft_err g A n c L lies _ (hR.bel (by (repeat (first | exact Bel.refl _ | assumption | refine Bel.drew ?_ | refine Bel.drewN ?_ _ | refine Bel.alloc ?_ _ | refine Bel.setCell ?_ (by first | omega | (simp; done) | (simp; omega) | (simp at *; omega)) _ | refine Bel.trans ?_ (by assumption))))) Hn.out HX.out HLN.out).mono ?_
      rintro e w3 ⟨rfl, hb3⟩
      rw [HLV.out]
      go_wp2_with fail
      refine (wGrade_err g A n c L _ (hR.bel (by (repeat (first | exact Bel.refl _ | assumption | refine Bel.drew ?_ | refine Bel.drewN ?_ _ | refine Bel.alloc ?_ _ | refine Bel.setCell ?_ (by first | omega | (simp; done) | (simp; omega) | (simp at *; omega)) _ | refine Bel.trans ?_ (by assumption))))) Hn.out HX.out HE.out).mono ?_
      rintro e w4 ⟨rfl, hb4⟩
      rw [← HXX.out]
      go_wp2_with fail
      refine (sameInts_any none none 0 0 0 0 [] _ (.inl rfl) (.inl rfl) rfl rfl (by decide)).mono ?_
      rintro e w5 ⟨rfl, hb5⟩
      go_wp2_with (go_at_call 26; refine (known_any _).mono ?_; rintro e w7 ⟨rfl, hb7⟩)
      go_ret
      exact ⟨rfl, by (repeat (first | exact Bel.refl _ | assumption | refine Bel.drew ?_ | refine Bel.drewN ?_ _ | refine Bel.alloc ?_ _ | refine Bel.setCell ?_ (by first | omega | (simp; done) | (simp; omega) | (simp at *; omega)) _ | refine Bel.trans ?_ (by assumption)))⟩
  · have HL := Lib.hid hl
    clear hl
    go_enter Try.func22, Try.ntmps22
    go_wp2_with fail
    refine (long_any A n c L _ hR Hn.out HX.out).mono ?_
    rintro e w1 ⟨rfl, rfl⟩
    rw [HL.out]
    go_wp2_with (go_at_call 26; refine (known_any _).mono ?_; rintro e w7 ⟨rfl, hb7⟩)
    go_ret
    exact ⟨rfl, by (repeat (first | exact Bel.refl _ | assumption | refine Bel.drew ?_ | refine Bel.drewN ?_ _ | refine Bel.alloc ?_ _ | refine Bel.setCell ?_ (by first | omega | (simp; done) | (simp; omega) | (simp at *; omega)) _ | refine Bel.trans ?_ (by assumption)))⟩

set_option maxHeartbeats 1000000 in
theorem walk (g : Int) (A : Option Addr) (n c : Nat) (Z : List AnZ) (lies : Int) (w : World) (a : ArgA w A n c Z) :
    Calls Try.prog 4 #[.int .i64 g, .slice A n c, .int .i64 lies] w fun e w' => e = .returned (.bool true) ∧ Bel w w' := by
  obtain ⟨e1, e2, e3⟩ := a.els
  have hc9 := (reachN_le a.reach (by omega)).1
  go_enter Try.func4, Try.ntmps4
  go_wp2_with fail
  refine (keepAnswers_any A n c Z _ a.ans a.len a.le a.nil a.reach).mono ?_
  rintro e w1 ⟨A', n', c', rfl, hn', hb1, hr1⟩
  have HN := Lib.hid hn'; clear hn'
  go_wp2_with fail
  refine (inner g A n c _ lies _ (e1.bel hb1) e2 e3).mono ?_
  rintro e w2 ⟨rfl, hb2⟩
  have hb02 := hb1.trans hb2
  go_wp2_with fail
  refine (keptAnswers_any A' A n' c' n c Z _ (hr1.bel hb2) (a.ans.bel hb02) HN.out.symm a.len a.le a.nil hc9).mono ?_
  rintro e w3 ⟨rfl, hb3⟩
  go_wp2
  go_ret
  exact ⟨rfl, hb02.trans hb3⟩

set_option maxRecDepth 100000 in
theorem lifted (os : Os) (started : os.Started) (H : Type) (enc : TypeId × Value → H) :
    ReturnsInHanded {} Try.checked os 4 .any (Rows.judgeLeftSpec.pre6 enc Try.prog Try.f4 Rows.judgeLeftRow.domain false) (Rows.judgeLeftSpec.post enc Try.prog Try.f4 false true false false) := by
  refine returnsInHanded_of_change_sized (C := Try.checked) own started (by kernel_rfl) Try.func4
    (ChangeSpec.witness6 (enc := enc) (C := Try.checked) false ⟨#[], #[.int .i64 0, .slice none 0 0, .int .i64 0], []⟩ 8 (by kernel_rfl) (by kernel_rfl) (by kernel_rfl) (by kernel_rfl)) ?_
  intro W base args ds gs before hval0 hW hcnd hsz0 _
  have hval : ∀ (j : Nat) t v, Try.f4.params[j]? = some t → args[j]? = some v → Value.okWide Try.prog W .any base t v := hval0
  have hsz : (DataW.weightsEach Try.prog (Try.f4.params.toList ++ Rows.judgeLeftSpec.plain.varTypes Try.prog) (ds ++ gs)).all (· ≤ reachBytes) = true := hsz0
  have hW' := hW
  obtain ⟨p, q, hA0, hV, rfl, hfz, hnd⟩ := hW
  have hA : DataW.TrodAll enc Try.prog W 0 (fun _ => true) true Try.f4.params.toList args.toList ds p := hA0
  rw [Try.params4] at hA hval hsz
  obtain ⟨v0, vs0, d0, ds0, p0, q0, hargs, rfl, rfl, h0, r0⟩ := trodAll_cons hA
  obtain ⟨v1, vs1, d1, ds1, p1, q1, rfl, rfl, rfl, h1, r1⟩ := trodAll_cons r0
  obtain ⟨v2, vs2, d2, ds2, p2, q2, rfl, rfl, rfl, h2, r2⟩ := trodAll_cons r1
  obtain ⟨rfl, rfl, rfl⟩ := trodAll_nil r2
  obtain rfl : args = #[v0, v1, v2] := by cases args; simp_all
  obtain ⟨rfl, rfl⟩ := trodVars_none hV
  have k0 := h0
  have lt0 : ∀ x ∈ p0, x.block < W.heap.size := by obtain ⟨m, hm⟩ := k0; exact DataW.trod_lt m _ _ _ hm
  have k1 := h1
  have lt1 : ∀ x ∈ p1, x.block < W.heap.size := by obtain ⟨m, hm⟩ := k1; exact DataW.trod_lt m _ _ _ hm
  have k2 := h2
  have lt2 : ∀ x ∈ p2, x.block < W.heap.size := by obtain ⟨m, hm⟩ := k2; exact DataW.trod_lt m _ _ _ hm
  obtain ⟨x0, rfl, rfl, rfl, w0⟩ := open_int Try.underlying3 (hval 0 3 v0 rfl rfl) h0
  have hr1 : ∀ k ∈ d1.weights Try.prog 22, k ≤ reachN := fun k hk => by rw [← reach_eq]; simpa using List.all_eq_true.1 hsz k (DataW.weights_mem_each (j := 1) rfl rfl k hk)
  obtain ⟨A1, n1, c1, zs1, rfl, a1⟩ := open_argA (hval 1 22 v1 rfl rfl) h1 hr1
  obtain ⟨x2, rfl, rfl, rfl, w2⟩ := open_int Try.underlying3 (hval 2 3 v2 rfl rfl) h2
  clear hA0 hval0
  refine (walk x0 A1 n1 c1 zs1 x2 W a1).mono fun e W' ⟨he, bel⟩ => ?_
  subst he
  exact ⟨_, rfl, _, _, _, [], _, [], hW', trodAll_mk1 (shut_bool Try.underlying4 _), trodAll_cons_mk (shut_int Try.underlying3 w0) (trodAll_cons_mk (Below.trod laidOut (by kernel_rfl) (of_decide_eq_true (by kernel_rfl)) k1 bel lt1) (trodAll_cons_mk (shut_int Try.underlying3 w2) (trodAll_mk0))), rfl, Below.frame bel _, fun h => by cases h⟩

theorem over : Rows.judgeLeftRow.holds Try.pinned (OpenSpec.ofChange Rows.judgeLeftSpec) :=
  OpenClaim.holds_of_wide 4 Try.f4 rfl rfl rfl rfl rfl rfl rfl ⟨rfl, rfl, rfl, rfl, rfl⟩ rfl rfl rfl rfl rfl (by kernel_rfl) Try.func4 (by kernel_rfl)
    (of_decide_eq_true (by kernel_rfl)) (by unfold Func.isWrapper; rw [if_neg (of_decide_eq_false (by kernel_rfl))]; exact ⟨rfl, rfl⟩)
    (fun os started H enc _ => lifted os started H enc)

/-- The statement. -/
theorem proved : Rows.JudgeLeftSaid := over
end Go.Proofs.Ytogeackcnmeooaa.judgeLeft
