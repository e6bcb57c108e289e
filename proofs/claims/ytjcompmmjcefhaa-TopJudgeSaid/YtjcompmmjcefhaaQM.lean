/-
  The statement TopJudgeSaid: for any number of grades, grade and false answer, asking what is proposed finds the grade with no more questions than are needed. No condition.
-/
import Derived.Test.YtjcompmmjcefhaaKX
import Derived.Test.YtjcompmmjcefhaaKZ
import Derived.Test.YtjcompmmjcefhaaQO
import Derived.Test.YtjcompmmjcefhaaQP
import Derived.Test.YtjcompmmjcefhaaKK
namespace Go.Proofs.Ytjcompmmjcefhaa.topJudge
open Go.ChangeShapes Go.WideShapes Go.ChangeAt Go.RowKit Go.Joins

theorem need02 : needV 0 2 = 1 := by decide
theorem errS02 : errS 0 2 = 0 := by decide
theorem errA_nil_no {g : Int} (h : ¬ (1 ≤ g ∧ g ≤ 16)) : errA g [] = 1 := by unfold errA; rw [if_neg h]
theorem errA_nil_ok {g : Int} (h : 1 ≤ g ∧ g ≤ 16) : errA g [] = 0 := by unfold errA; rw [if_pos h]; rfl
theorem need_bd {a b : Int} (h : inS a b) : 0 ≤ needV a b ∧ needV a b ≤ 8 ∧ boundV a b ≤ needV a b := by
  unfold needV boundV
  rw [if_pos h, if_pos h]
  unfold inS at h
  have := bd_le_nd (a := a.toNat) (b := b.toNat) (by omega) (by omega)
  have := (nd_spec (a := a.toNat) (b := b.toNat) (by omega) (by omega)).2.1
  omega
def lenV : Value → Nat
  | .slice _ n _ => n
  | _ => 0

theorem countL_at {L : List An} {g r : Nat} (hr : r < g) : (countL L g)[r]? = some (cntI L r) := by
  unfold countL
  rw [List.getElem?_map, List.getElem?_range hr]
  rfl
theorem lied_yes {lie : Int} {k : Nat} (h0 : 0 ≤ lie) (h1 : lie < (k : Int)) : lied lie k = 1 := by unfold lied; rw [if_pos ⟨h0, h1⟩]
theorem lied_no {lie : Int} {k : Nat} (h : lie < 0 ∨ (k : Int) ≤ lie) : lied lie k = 0 := by unfold lied; rw [if_neg (by omega)]
theorem right_is (x : Int) (g : Nat) (hg : 1 ≤ g) (hg2 : g ≤ 16) : ∃ r : Nat, r < g ∧ wrap64 ((IntKind.u64.wrap x).tmod (g : Int)) = (r : Int) := by
  have h0 : 0 ≤ IntKind.u64.wrap x := by
    show 0 ≤ x % 18446744073709551616
    exact Int.emod_nonneg _ (by decide)
  have h1 : (IntKind.u64.wrap x).tmod (g : Int) = (IntKind.u64.wrap x) % (g : Int) := Int.tmod_eq_emod_of_nonneg h0
  have h2 := Int.emod_nonneg (IntKind.u64.wrap x) (b := (g : Int)) (by omega)
  have h3 := Int.emod_lt_of_pos (IntKind.u64.wrap x) (b := (g : Int)) (by omega)
  rw [h1]
  refine ⟨((IntKind.u64.wrap x) % (g : Int)).toNat, by omega, ?_⟩
  rw [IntWalk.wrap64_in _ (by omega)]
  omega

set_option maxRecDepth 100000 in
theorem walk_no (g grade lie : Int) (w : World) (hg : ¬ (1 ≤ g ∧ g ≤ 16)) :
    Calls Try.prog 7 #[.int .i64 g, .int .i64 grade, .int .i64 lie] w fun e w' => e = .returned (.bool true) ∧ Bel w w' := by
  have HN := Lib.hid need02; have HS := Lib.hid errS02; have HE := Lib.hid (errA_nil_no hg)
  clear hg
  go_enter Try.func7, Try.ntmps7
  go_wp2_with fail
  refine (wNeed_any 0 2 _).mono ?_
  rintro e w1 ⟨rfl, hb1⟩
  rw [HN.out, HS.out]
  go_wp2_with fail
  refine (validate_any g none 0 0 [] _ (.inl rfl) rfl (Nat.zero_le _)).mono ?_
  rintro e w2 ⟨rfl, hb2⟩
  rw [HE.out]
  go_wp2
  go_ret
  exact ⟨rfl, hb1.trans hb2⟩

set_option maxRecDepth 100000 in
set_option maxHeartbeats 4000000 in
theorem walk_ok (g : Nat) (grade lie : Int) (w : World) (g1 : 1 ≤ g) (g2 : g ≤ 16) :
    Calls Try.prog 7 #[.int .i64 (g : Int), .int .i64 grade, .int .i64 lie] w fun e w' => e = .returned (.bool true) ∧ Bel w w' := by
  obtain ⟨i0, hi, hz0, hz1, hz2⟩ := info_parts info2A
  obtain ⟨i1, hj, hj0, hj1, hj2⟩ := info_parts info1I
  have HN := Lib.hid need02; have HS := Lib.hid errS02; have HE := Lib.hid (errA_nil_ok (g := (g : Int)) (by omega))
  have hS : inS (g : Int) 0 := inS_of (a := g) (b := 0) g2 (by omega)
  obtain ⟨n1, n2, n3⟩ := need_bd hS
  have HES := Lib.hid (errS_ok hS)
  obtain ⟨bo, hbo⟩ : ∃ bo, bo = boundV (g : Int) 0 := ⟨_, rfl⟩
  have HM := Lib.hid (show needV (g : Int) 0 = ((nd g 0 : Nat) : Int) by unfold needV; rw [if_pos hS]; rfl)
  rw [HM.out] at n1 n2 n3
  obtain ⟨most, hmost⟩ : ∃ most, most = nd g 0 := ⟨_, rfl⟩
  rw [← hmost] at n1 n2 n3
  rw [← hbo] at n3
  have HB := Lib.hid hbo; have HMo := Lib.hid hmost
  have gi1 : (1 : Int) ≤ g := by omega
  have gi2 : (g : Int) ≤ 16 := by omega
  clear hS hbo hmost
  go_enter Try.func7, Try.ntmps7
  go_wp2_with fail
  refine (wNeed_any 0 2 _).mono ?_
  rintro e w1 ⟨rfl, hb1⟩
  rw [HN.out, HS.out]
  go_wp2_with fail
  refine (validate_any g none 0 0 [] _ (.inl rfl) rfl (Nat.zero_le _)).mono ?_
  rintro e w2 ⟨rfl, hb2⟩
  rw [HE.out]
  go_wp2_with fail
  refine (wNeed_any g 0 _).mono ?_
  rintro e w3 ⟨rfl, hb3⟩
  rw [HM.out, ← HMo.out, HES.out]
  go_wp2_with fail
  refine (wBound_any g 0 _).mono ?_
  rintro e w4 ⟨rfl, hb4⟩
  rw [← HB.out, HES.out]
  have hB4 := ((hb1.trans hb2).trans hb3).trans hb4
  clear hb1 hb2 hb3 hb4
  go_wp2
  all_goals
    obtain ⟨r, hr, hr2⟩ := right_is grade g g1 g2
    rw [hr2]
    clear hr2
    have hr16 : (r : Int) < g := by omega
    have hA0 : Asked g r most lie [] := ⟨HE.out, by rw [(z_nil g).1, (z_nil g).2, HMo.out]; simp, by
      rw [cntI_nil]; unfold lied; rw [if_neg (by simp)]⟩
    go_loopw [14] (fun v wr => ∃ L : List An, OwnA w.heap.size wr v L ∧ Bel w wr ∧ Asked g r most lie L) (fun v _ => most - lenV v)
    case atStart => exact ⟨[], OwnA.nil _ _, hB4, hA0⟩
    case round =>
      clear hA0
      obtain ⟨L, hO, hb, hA⟩ := hrel
      have HO := Lib.hid hO
      obtain ⟨A, n, c, rfl, hn, hR⟩ := hO.form
      have hneed := hA.need
      have hz := z_bd L g
      have hm8 : L.length ≤ 8 := by omega
      have HER := Lib.hid hA.err
      have HAA := Lib.hid hA
      have Hn := Lib.hid hn.symm
      obtain ⟨a, ha⟩ : ∃ a, a = zA L g := ⟨_, rfl⟩
      obtain ⟨d, hd⟩ : ∃ d : Nat, d = zB L g - zA L g := ⟨_, rfl⟩
      have HDI := Lib.hid (show dI L g = (d : Int) by unfold dI; omega)
      rw [← hd, ← ha] at hneed
      have hpos : 1 ≤ a + d := by
        have h1 := in_left1 hr (by rw [hA.cnt]; exact (lied_bd _ _).2)
        have h2 := List.length_pos_of_mem h1
        rw [← zB_left] at h2
        omega
      have HA' := Lib.hid ha; have HD' := Lib.hid hd
      have a16 : (a : Int) ≤ 16 := by omega
      have d16 : (d : Int) ≤ 16 := by omega
      have had : a + d = zB L g := by omega
      have HAD := Lib.hid had
      rw [← hn] at hneed hm8
      clear hO hA ha hd hz hn had
      go_wp2_with fail
      refine (wState_ok g A n c L _ hR Hn.out (by unfold maxLen; omega) HER.out).mono ?_
      rintro e w5 ⟨rfl, hb5⟩
      rw [HDI.out, ← HA'.out]
      have hbw5 := hb.trans hb5
      by_cases hs : a + d ≤ 1
      · have hs2 : (a : Int) + (d : Int) < 2 := by omega
        have HL1 := Lib.hid (left_one hr (by rw [HAA.out.cnt]; exact (lied_bd _ _).2) (by rw [← HAD.out]; exact hs))
        have hnm : (n : Int) ≤ (most : Int) := by omega
        go_wp2_with fail
        refine (wGrade_ok g A n c L _ (hR.bel hb5) Hn.out (by unfold maxLen; omega) HER.out).mono ?_
        rintro e w6 ⟨rfl, hb6⟩
        rw [HL1.out, gradeV_one]
        go_wp2_with fail
        refine (wAgainst_ok g A n c L _ (hR.bel (hb5.trans hb6)) Hn.out (by unfold maxLen; omega) HER.out).mono ?_
        rintro e w7 ⟨A7, n7, c7, rfl, hn7, hb7, hI7⟩
        rw [countL_length] at hn7
        obtain rfl : n7 = g := hn7
        obtain ⟨b, o, v, rfl, hbl, hv, hc⟩ := hI7.at_ (k := r) (by rw [countL_length]; exact hr)
        rw [countL_at hr, HAA.out.cnt, Hn.out] at hv
        have hB7 := (hbw5.trans hb6).trans hb7
        by_cases h0 : 0 ≤ lie
        · by_cases h1 : lie < (n : Int)
          · rw [lied_yes h0 h1] at hv
            injection hv with hv
            subst hv
            go_wp2
            go_ret
            exact ⟨rfl, by (repeat (first | exact Bel.refl _ | assumption | refine Bel.drew ?_ | refine Bel.drewN ?_ _ | refine Bel.alloc ?_ _ | refine Bel.setCell ?_ (by first | omega | (simp; done) | (simp; omega) | (simp at *; omega)) _ | refine Bel.trans ?_ (by assumption)))⟩
          · rw [lied_no (.inr (by omega))] at hv
            injection hv with hv
            subst hv
            have h2 : (n : Int) ≤ lie := by omega
            clear h1
            go_wp2
            go_ret
            exact ⟨ret_bool (by simp; omega), by (repeat (first | exact Bel.refl _ | assumption | refine Bel.drew ?_ | refine Bel.drewN ?_ _ | refine Bel.alloc ?_ _ | refine Bel.setCell ?_ (by first | omega | (simp; done) | (simp; omega) | (simp at *; omega)) _ | refine Bel.trans ?_ (by assumption)))⟩
        · have h2 : lie < 0 := by omega
          rw [lied_no (.inl h2)] at hv
          injection hv with hv
          subst hv
          clear h0
          go_wp2
          go_ret
          exact ⟨rfl, by (repeat (first | exact Bel.refl _ | assumption | refine Bel.drew ?_ | refine Bel.drewN ?_ _ | refine Bel.alloc ?_ _ | refine Bel.setCell ?_ (by first | omega | (simp; done) | (simp; omega) | (simp at *; omega)) _ | refine Bel.trans ?_ (by assumption)))⟩
      · have hs2 : 2 ≤ (a : Int) + (d : Int) := by omega
        obtain ⟨vs, hOV⟩ := HO.out
        have hOV5 := Lib.hid (hOV.bel hb5)
        clear hOV
        go_wp2_with fail
        refine (wNext_ok g A n c L _ (hR.bel hb5) Hn.out (by omega) HER.out (by rw [← HAD.out]; exact hs)).mono ?_
        rintro e w6 ⟨A1, n1, c1, x, y, rfl, hn1, hb6, hI1, hx, hy, h1, hG⟩
        have HK := Lib.hid (fun (yes : Bool) (hyes : yes = (hasB (pk (cntI L) x y g).2.2 (r : Int) != decide (lie = (L.length : Int)))) => HAA.out.more (by omega) g2 hx hy h1 hG hyes)
        have hne := pk_ne g2 hx hy h1 hG
        have hpl := pk_len (cntI L) x y g
        obtain ⟨S, hS⟩ : ∃ S, S = (pk (cntI L) x y g).2.2 := ⟨_, rfl⟩
        rw [← hS] at hn1 hI1 hne HK hpl
        have hnd : nd a d = nd (zA L g) (zB L g - zA L g) := by rw [← HD'.out, ← HA'.out]
        rw [← hnd] at h1
        have hlt : n < most := by omega
        obtain ⟨b1, b2, rfl, hbl1, hnw⟩ := hI1.news hne
        have hlti : (n : Int) < (most : Int) := by omega
        have hn1p : 0 < n1 := by rw [hn1]; exact List.length_pos_iff.2 hne
        have hn1g : n1 ≤ 16 := by rw [hn1]; omega
        have HN1 := Lib.hid hn1.symm
        have HM1 := Lib.hid (show n1 ≤ maxLen by unfold maxLen; omega)
        clear hS hx hy hG hne hnd hn1
        go_wp2_with fail
        refine (has_any _ n1 c1 S r _ hI1 HN1.out HM1.out).mono ?_
        rintro e w7 ⟨rfl, rfl⟩
        have hbw6 := hbw5.trans hb6
        have hbase : w.heap.size ≤ w6.heap.size := hbw6.size
        have hX1 := Lib.hid (show 0 + n1 ≤ maxLen by unfold maxLen; omega)
        have hX2 := Lib.hid (show (0 + n1) * 8 ≤ 140737488355328 by omega)
        have hX3 := Lib.hid (show L.length + 1 ≤ maxLen by unfold maxLen; have := Hn.out; omega)
        have hX4 := Lib.hid (show (L.length + 1) * 32 ≤ 140737488355328 by have := Hn.out; omega)
        have hlit : Hid ((w6.alloc (.cells #[] 3)).ownsRow w6.heap.size 3 1 (.slice (some ⟨w6.heap.size, 0, none⟩) 0 0) 0 []) := World.ownsRow_lit w6 #[] 0 (Nat.le_refl _) (by unfold maxLen; omega) rfl
        have hnews : Hid (∀ w', Bel w6 w' → ∀ j u, (S.map fun x => Value.int .i64 x)[j]? = some u → w'.cell? ((⟨b1, b2, none⟩ : Addr).add j) = some u) := by
          intro w' hb' j u hj
          have := hnw j u hj
          rw [Go.Addr.add_mid] at this ⊢
          rw [hb'.use.1 _ _ hbl1]
          exact this
        have hOV6 := Lib.hid (hOV5.out.bel hb6)
        clear hnw hOV5
        have hRow : Hid (∀ w', Bel w6 w' → w'.ownsRow w.heap.size 25 2 (.slice A n c) n vs) := fun w' hb' => by
          have := (hOV6.out.bel hb').own
          rw [Hn.out] at this
          exact this
        have hX3' := Lib.hid (show n + 1 ≤ maxLen by unfold maxLen; omega)
        have hX4' := Lib.hid (show (n + 1) * 32 ≤ 140737488355328 by omega)
        obtain ⟨q, hq⟩ : ∃ q : Nat, q = most - n := ⟨_, rfl⟩
        have hq1 : q ≤ 8 := by omega
        have hq2 := Lib.hid (show (most : Int) - ((n : Int) + 1) + 1 = (q : Int) by omega)
        have hq3 : (nd a d : Nat) ≤ q := by omega
        have hq4 := Lib.hid ((nd_le (q := q) (a := a) (b := d) (by omega) (by omega)).2 hq3)
        have hSS : inS (a : Int) (d : Int) := inS_of (by omega) (by omega)
        have hNV := Lib.hid (show needV (a : Int) (d : Int) = ((nd a d : Nat) : Int) by unfold needV; rw [if_pos hSS]; rfl)
        have hES := Lib.hid (errS_ok hSS)
        have hq5 : ((nd a d : Nat) : Int) ≤ (q : Int) := by omega
        obtain ⟨m, hm⟩ : ∃ m : Nat, m = nd a d := ⟨_, rfl⟩
        rw [← hm] at hq5
        have hq6 : (m : Int) ≤ (most : Int) - ((n : Int) + 1) + 1 := by omega
        have HMM := Lib.hid hm
        have hmeas : most - (n + 1) < most - n := by omega
        clear hq hq3 hSS hm hX3 hX4 hneed h1
        go_wp2_with (first
          | (at_builtin; go_loud (refine wpList_append_lies _ rfl (.tmp 124) (.tmp 125) 23 rfl w6.heap.size 3 i1 _ 1 8 Try.underlying23 hj hj0 hj1 hj2 rfl (by decide) _ 0 [] (by rfl) hlit.out ⟨b1, b2, none⟩ n1 c1 (S.map fun x => .int .i64 x) (by rfl) (by rw [List.length_map, HN1.out, Nat.mul_one]) (hnews.out _ (by (repeat (first | exact Bel.refl _ | assumption | refine Bel.drew ?_ | refine Bel.drewN ?_ _ | refine Bel.alloc ?_ _ | refine Bel.setCell ?_ (by first | omega | (simp; done) | (simp; omega) | (simp at *; omega)) _ | refine Bel.trans ?_ (by assumption))))) (one_map _) hn1p hX1.out hX2.out (by simp) _ rfl ?_); intro g3 cap3 w3'; rw [show 0 + n1 = n1 from Nat.zero_add n1, List.nil_append]; intro hown3 hgr3 hat3 hlt3; have hB3 := grown_own (w := w6) ((Bel.refl w6).alloc _) hlit.out (Nat.le_refl _) hgr3; clear hgr3 hat3 hlt3)
          | (at_builtin; go_loud (refine wpList_append_lies _ rfl (.tmp 123) (.tmp 129) 22 rfl w.heap.size 25 i0 _ 2 32 Try.underlying22 hi hz0 hz1 hz2 rfl (by decide) _ n vs (by rfl) ((hRow.out _ hB3).alloc _) ⟨w3'.heap.size, 0, none⟩ 1 1 [.slice (some ⟨g3, 0, none⟩) n1 cap3, .bool (!(hasB S (r : Int) == (lie == (n : Int))))] (by rfl) rfl (new2 _ _ _ _ _ rfl) (one2 _ _ _ _) (by omega) hX3'.out hX4'.out (by have := hB3.size; simp; omega) _ rfl ?_); intro g4 cap4 w4' hown4 hgr4 hat4 hlt4)
          | fail)
        have hI3 := ints_row hown3
        obtain ⟨hg1, hg2⟩ := World.ownsRow.lt hown3 g3 rfl
        have hO4 := OwnV.snoc (g := g4) (ns := S) (A' := some ⟨g3, 0, none⟩) (n' := n1) (c' := cap3) ((hOV6.out.bel hB3).bel ((Bel.refl w3').alloc _)) (hI3.bel ((Bel.refl w3').alloc _)) HN1.out HM1.out (fun b o hA => by injection hA with hA; injection hA with e1 e2; subst e1; exact ⟨by simp; omega, fun e => by have h1 := (World.ownsRow.lt (hRow.out _ (Bel.refl w6)) _ e).2; omega⟩) (by rw [Hn.out]; exact hown4) hgr4 (by simpa using hat4)
        rw [Hn.out] at hO4
        have hbw4 : Bel w w4' := grown_own (w := w) (hbw6.trans (hB3.alloc _)) (hRow.out _ hB3) (Nat.le_refl _) hgr4
        have hAsk := HK.out _ (show (!(hasB S (r : Int) == (lie == (n : Int)))) = (hasB S (r : Int) != decide (lie = (L.length : Int))) by rw [Hn.out]; rfl)
        obtain ⟨ys, hys⟩ : ∃ ys, ys = (!(hasB S (r : Int) == (lie == (n : Int)))) := ⟨_, rfl⟩
        rw [← hys] at hO4 hAsk
        have HO4 := Lib.hid hO4; have HASK := Lib.hid hAsk
        clear hown3 hgr4 hown4 hat4 hlt4 hI3 hO4 hAsk hys HK HO HAA hOV6
        go_wp2_with fail
        refine (wNeed_any a d _).mono ?_
        rintro e w8 ⟨rfl, hb8⟩
        rw [hNV.out, hES.out, ← HMM.out]
        go_wp2_with (first | (go_at_call 22; rw [hq2.out]; refine (wEnough_ok a d q _ (by omega) (by omega) (by omega)).mono ?_; rintro e w9 ⟨rfl, hb9⟩; rw [hq4.out]))
        have hb89 := hb8.trans hb9
        go_roundw
        case rel => exact ⟨_, HO4.out.bel hb89, hbw4.trans hb89, HASK.out⟩
        case measure => simp only [lenV]; exact hmeas

theorem walk (g grade lie : Int) (w : World) : Calls Try.prog 7 #[.int .i64 g, .int .i64 grade, .int .i64 lie] w fun e w' => e = .returned (.bool true) ∧ Bel w w' := by
  by_cases hg : 1 ≤ g ∧ g ≤ 16
  · obtain ⟨n, rfl⟩ : ∃ n : Nat, g = n := ⟨g.toNat, by omega⟩
    exact walk_ok n grade lie w (by omega) (by omega)
  · exact walk_no g grade lie w hg

set_option maxRecDepth 100000 in
theorem lifted (os : Os) (started : os.Started) (H : Type) (enc : TypeId × Value → H) :
    ReturnsInHanded {} Try.checked os 7 .any (Rows.topJudgeSpec.pre6 enc Try.prog Try.f7 Rows.topJudgeRow.domain false) (Rows.topJudgeSpec.post enc Try.prog Try.f7 false true false false) := by
  refine returnsInHanded_of_change_sized (C := Try.checked) own started (by kernel_rfl) Try.func7
    (ChangeSpec.witness6 (enc := enc) (C := Try.checked) false ⟨#[], #[.int .i64 0, .int .i64 0, .int .i64 0], []⟩ 8 (by kernel_rfl) (by kernel_rfl) (by kernel_rfl) (by kernel_rfl)) ?_
  intro W base args ds gs before hval0 hW hcnd hsz0 _
  have hval : ∀ (j : Nat) t v, Try.f7.params[j]? = some t → args[j]? = some v → Value.okWide Try.prog W .any base t v := hval0
  have hsz : (DataW.weightsEach Try.prog (Try.f7.params.toList ++ Rows.topJudgeSpec.plain.varTypes Try.prog) (ds ++ gs)).all (· ≤ reachBytes) = true := hsz0
  have hW' := hW
  obtain ⟨p, q, hA0, hV, rfl, hfz, hnd⟩ := hW
  have hA : DataW.TrodAll enc Try.prog W 0 (fun _ => true) true Try.f7.params.toList args.toList ds p := hA0
  rw [Try.params7] at hA hval hsz
  obtain ⟨v0, vs0, d0, ds0, p0, q0, hargs, rfl, rfl, h0, r0⟩ := trodAll_cons hA
  obtain ⟨v1, vs1, d1, ds1, p1, q1, rfl, rfl, rfl, h1, r1⟩ := trodAll_cons r0
  obtain ⟨v2, vs2, d2, ds2, p2, q2, rfl, rfl, rfl, h2, r2⟩ := trodAll_cons r1
  obtain ⟨rfl, rfl, rfl⟩ := trodAll_nil r2
  obtain rfl : args = #[v0, v1, v2] := by cases args; simp_all
  obtain ⟨rfl, rfl⟩ := trodVars_none hV
  have k0 := h0
  have lt0 : ∀ x ∈ p0, x.block < W.heap.size := by obtain ⟨m, hm⟩ := k0; exact DataW.trod_lt m _ _ _ hm
  have k1 := h1
  have lt1 : ∀ x ∈ p1, x.block < W.heap.size := by obtain ⟨m, hm⟩ := k1; exact DataW.trod_lt m _ _ _ hm
  have k2 := h2
  have lt2 : ∀ x ∈ p2, x.block < W.heap.size := by obtain ⟨m, hm⟩ := k2; exact DataW.trod_lt m _ _ _ hm
  obtain ⟨x0, rfl, rfl, rfl, w0⟩ := open_int Try.underlying3 (hval 0 3 v0 rfl rfl) h0
  obtain ⟨x1, rfl, rfl, rfl, w1⟩ := open_int Try.underlying3 (hval 1 3 v1 rfl rfl) h1
  obtain ⟨x2, rfl, rfl, rfl, w2⟩ := open_int Try.underlying3 (hval 2 3 v2 rfl rfl) h2
  clear hA0 hval0
  refine (walk x0 x1 x2 W ).mono fun e W' ⟨he, bel⟩ => ?_
  subst he
  exact ⟨_, rfl, _, _, _, [], _, [], hW', trodAll_mk1 (shut_bool Try.underlying4 _), trodAll_cons_mk (shut_int Try.underlying3 w0) (trodAll_cons_mk (shut_int Try.underlying3 w1) (trodAll_cons_mk (shut_int Try.underlying3 w2) (trodAll_mk0))), rfl, Below.frame bel _, fun h => by cases h⟩

theorem over : Rows.topJudgeRow.holds Try.pinned (OpenSpec.ofChange Rows.topJudgeSpec) :=
  OpenClaim.holds_of_wide 7 Try.f7 rfl rfl rfl rfl rfl rfl rfl ⟨rfl, rfl, rfl, rfl, rfl⟩ rfl rfl rfl rfl rfl (by kernel_rfl) Try.func7 (by kernel_rfl)
    (of_decide_eq_true (by kernel_rfl)) (by unfold Func.isWrapper; rw [if_neg (of_decide_eq_false (by kernel_rfl))]; exact ⟨rfl, rfl⟩)
    (fun os started H enc _ => lifted os started H enc)

/-- The statement. -/
theorem proved : Rows.TopJudgeSaid := over
end Go.Proofs.Ytjcompmmjcefhaa.topJudge
