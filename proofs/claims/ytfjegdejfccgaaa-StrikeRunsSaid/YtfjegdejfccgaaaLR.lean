/-
  The statement StrikeRunsSaid: for all strikes and stocks Run answers as the document says, and has no error exactly if there are no more runs than Limit says; the lists stay as they were in their spare cells, too, and the known answers come out. No condition.
-/
import Derived.Test.YtfjegdejfccgaaaZQ
namespace Go.Proofs.Ytfjegdejfccgaaa.strikeRuns
open Go.ChangeShapes Go.WideShapes Go.ChangeAt Go.RowKit Go.Joins

set_option maxRecDepth 100000 in
set_option maxHeartbeats 1000000 in
theorem inner (A : Option Addr) (n c : Nat) (B : Option Addr) (m d : Nat) (X Y : List (List Int)) (T : Option Addr) (t u : Nat) (ts : List Int) (K : Option Addr) (k v : Nat) (ks : List Int) (r : Int) (w : World) (hS : Strk w A n B m X Y) (hT : Ints w T ts) (ht : ts.length = t) (htu : t ≤ u) (hum : u ≤ maxLen) (hK : Ints w K ks) (hk : ks.length = k) (hkv : k ≤ v) (hvm : v ≤ maxLen) :
    Calls Try.prog 30 #[.agg #[.slice A n c, .slice B m d], .agg #[.slice T t u, .slice K k v, .int .i64 r]] w fun e w' => e = .returned (.bool true) ∧ Bel w w' := by
  have Hxn := Lib.hid hS.lx; have Hym := Lib.hid hS.ly
  have Ht := Lib.hid ht; have Hk := Lib.hid hk
  have htm : t ≤ maxLen := Nat.le_trans htu hum
  have hkm : k ≤ maxLen := Nat.le_trans hkv hvm
  obtain ⟨eR, heR⟩ : ∃ x, x = errR X Y ts ks := ⟨_, rfl⟩
  have HeR := Lib.hid heR; clear heR
  obtain ⟨eU, heU⟩ : ∃ x, x = errU X Y ts ks r := ⟨_, rfl⟩
  have HeU := Lib.hid heU; clear heU
  obtain ⟨lV, hlV⟩ : ∃ x, x = limV X Y ts ks := ⟨_, rfl⟩
  have HlV := Lib.hid hlV; clear hlV
  obtain ⟨aV, haV⟩ : ∃ x, x = leftV X Y ts ks r := ⟨_, rfl⟩
  have HLaV := Lib.hid (show aV.length ≤ 3 by rw [haV]; exact leftV_len X Y ts ks r)
  have HaV := Lib.hid haV; clear haV
  obtain ⟨bV, hbV⟩ : ∃ x, x = madeV X Y ts ks r := ⟨_, rfl⟩
  have HLbV := Lib.hid (show bV.length ≤ 3 by rw [hbV]; exact madeV_len X Y ts ks r)
  have HbV := Lib.hid hbV; clear hbV
  have Held := Lib.hid (fun w' (h : Bel ((w.alloc (.cells #[.slice A n c, .slice B m d] 24)).alloc (.cells #[.slice T t u, .slice K k v, .int .i64 r] 34)) w') => box_st h)
  have hb0 : Bel w ((w.alloc (.cells #[.slice A n c, .slice B m d] 24)).alloc (.cells #[.slice T t u, .slice K k v, .int .i64 r] 34)) := ((Bel.refl w).alloc _).alloc _
  obtain ⟨p, hp⟩ : ∃ p, p = decide (100 < t) := ⟨_, rfl⟩
  obtain ⟨q, hq⟩ : ∃ q, q = decide (100 < k) := ⟨_, rfl⟩
  have HP := Lib.hid hp; have HQ := Lib.hid hq
  clear hp hq
  go_enter Try.func30, Try.ntmps30
  go_wp2_with fail
  refine (long_any A B n c m d X Y _ (hS.bel hb0)).mono ?_
  rintro e w1 ⟨bl, rfl, hb1⟩
  obtain ⟨g0, g1, g2, g3, g4⟩ := Held.out _ hb1
  cases bl with
  | true =>
    go_wp2_with fail
    refine (known_any _).mono ?_
    rintro e w9 ⟨rfl, hb9⟩
    go_wp2
    go_ret
    exact ⟨rfl, by (repeat (first | exact Bel.refl _ | assumption | refine Bel.drew ?_ | refine Bel.drewN ?_ _ | refine Bel.alloc ?_ _ | refine Bel.setCell ?_ (by first | omega | (simp; done) | (simp; omega) | (simp at *; omega)) _ | refine Bel.trans ?_ (by assumption)))⟩
  | false =>
    go_wp2_with fail
    refine (many_any T t u _).mono ?_
    rintro e w2 ⟨rfl, rfl⟩
    rw [← HP.out]
    cases p with
    | true =>
      go_wp2_with fail
      refine (known_any _).mono ?_
      rintro e w9 ⟨rfl, hb9⟩
      go_wp2
      go_ret
      exact ⟨rfl, by (repeat (first | exact Bel.refl _ | assumption | refine Bel.drew ?_ | refine Bel.drewN ?_ _ | refine Bel.alloc ?_ _ | refine Bel.setCell ?_ (by first | omega | (simp; done) | (simp; omega) | (simp at *; omega)) _ | refine Bel.trans ?_ (by assumption)))⟩
    | false =>
      go_wp2_with fail
      refine (many_any K k v _).mono ?_
      rintro e w2 ⟨rfl, rfl⟩
      rw [← HQ.out]
      cases q with
      | true =>
        go_wp2_with fail
        refine (known_any _).mono ?_
        rintro e w9 ⟨rfl, hb9⟩
        go_wp2
        go_ret
        exact ⟨rfl, by (repeat (first | exact Bel.refl _ | assumption | refine Bel.drew ?_ | refine Bel.drewN ?_ _ | refine Bel.alloc ?_ _ | refine Bel.setCell ?_ (by first | omega | (simp; done) | (simp; omega) | (simp at *; omega)) _ | refine Bel.trans ?_ (by assumption)))⟩
      | false =>
        have hB1 := hb1
        go_wp2_with fail
        refine (rRun_any A B n c m d X Y T t u ts K k v ks r _ (hS.bel (hb0.trans hB1)) (hT.bel (hb0.trans hB1)) Ht.out htm (hK.bel (hb0.trans hB1)) Hk.out hkm).mono ?_
        rintro e w2 ⟨A2, n2, c2, B2, m2, d2, rfl, hn2, hm2, hb2, hI2, hJ2⟩
        rw [← HaV.out] at hn2 hI2
        rw [← HbV.out] at hm2 hJ2
        rw [← HeU.out]
        have HN2 := Lib.hid hn2.symm; clear hn2
        have HM2 := Lib.hid hm2.symm; clear hm2
        clear g0 g1 g2 g3 g4
        have hB2 := hB1.trans hb2
        obtain ⟨g0, g1, g2, g3, g4⟩ := Held.out _ hB2
        go_wp2_with fail
        refine (run_any A B n c m d X Y T t u ts K k v ks r _ (hS.bel (hb0.trans hB2)) (hT.bel (hb0.trans hB2)) Ht.out htu hum (hK.bel (hb0.trans hB2)) Hk.out hkm).mono ?_
        rintro e w3 ⟨A3, n3, c3, B3, m3, d3, rfl, hn3, hm3, hb3, hI3, hJ3⟩
        rw [← HaV.out] at hn3 hI3
        rw [← HbV.out] at hm3 hJ3
        rw [← HeU.out]
        have HN3 := Lib.hid hn3.symm; clear hn3
        have HM3 := Lib.hid hm3.symm; clear hm3
        clear g0 g1 g2 g3 g4
        have hB3 := hB2.trans hb3
        obtain ⟨g0, g1, g2, g3, g4⟩ := Held.out _ hB3
        go_wp2_with fail
        refine (sameInts_any A3 A2 n3 c3 n2 c2 aV _ (hI3.bel (by (repeat (first | exact Bel.refl _ | assumption | refine Bel.drew ?_ | refine Bel.drewN ?_ _ | refine Bel.alloc ?_ _ | refine Bel.setCell ?_ (by first | omega | (simp; done) | (simp; omega) | (simp at *; omega)) _ | refine Bel.trans ?_ (by assumption))))) (hI2.bel (by (repeat (first | exact Bel.refl _ | assumption | refine Bel.drew ?_ | refine Bel.drewN ?_ _ | refine Bel.alloc ?_ _ | refine Bel.setCell ?_ (by first | omega | (simp; done) | (simp; omega) | (simp at *; omega)) _ | refine Bel.trans ?_ (by assumption))))) HN3.out HN2.out (by have := HN3.out; have := HLaV.out; unfold maxLen; omega)).mono ?_
        rintro e w4 ⟨rfl, hb4⟩
        go_wp2_with fail
        refine (sameInts_any B3 B2 m3 d3 m2 d2 bV _ (hJ3.bel (by (repeat (first | exact Bel.refl _ | assumption | refine Bel.drew ?_ | refine Bel.drewN ?_ _ | refine Bel.alloc ?_ _ | refine Bel.setCell ?_ (by first | omega | (simp; done) | (simp; omega) | (simp at *; omega)) _ | refine Bel.trans ?_ (by assumption))))) (hJ2.bel (by (repeat (first | exact Bel.refl _ | assumption | refine Bel.drew ?_ | refine Bel.drewN ?_ _ | refine Bel.alloc ?_ _ | refine Bel.setCell ?_ (by first | omega | (simp; done) | (simp; omega) | (simp at *; omega)) _ | refine Bel.trans ?_ (by assumption))))) HM3.out HM2.out (by have := HM3.out; have := HLbV.out; unfold maxLen; omega)).mono ?_
        rintro e w5 ⟨rfl, hb5⟩
        clear g0 g1 g2 g3 g4
        have hB5 := (hB3.trans hb4).trans hb5
        obtain ⟨g0, g1, g2, g3, g4⟩ := Held.out _ hB5
        go_wp2_with fail
        refine (limit_pub A B n c m d X Y T t u ts K k v ks _ (hS.bel (hb0.trans hB5)) (hT.bel (hb0.trans hB5)) Ht.out htu hum (hK.bel (hb0.trans hB5)) Hk.out hkm).mono ?_
        rintro e w6 ⟨A6, n6, c6, rfl, -, hb6, -⟩
        rw [← HlV.out, ← HeR.out]
        clear g0 g1 g2 g3 g4
        have hB6 := hB5.trans hb6
        obtain ⟨g0, g1, g2, g3, g4⟩ := Held.out _ hB6
        by_cases hz : eR = 0
        · by_cases hr0 : r < 0
          · subst hz
            go_wp2_with fail
            refine (known_any _).mono ?_
            rintro e w9 ⟨rfl, hb9⟩
            go_wp2
            go_ret
            exact ⟨rfl, by (repeat (first | exact Bel.refl _ | assumption | refine Bel.drew ?_ | refine Bel.drewN ?_ _ | refine Bel.alloc ?_ _ | refine Bel.setCell ?_ (by first | omega | (simp; done) | (simp; omega) | (simp at *; omega)) _ | refine Bel.trans ?_ (by assumption)))⟩
          · have hq0 : 0 ≤ r := by omega
            by_cases hr1 : 1000 < r
            · subst hz
              go_wp2_with fail
              refine (known_any _).mono ?_
              rintro e w9 ⟨rfl, hb9⟩
              go_wp2
              go_ret
              exact ⟨rfl, by (repeat (first | exact Bel.refl _ | assumption | refine Bel.drew ?_ | refine Bel.drewN ?_ _ | refine Bel.alloc ?_ _ | refine Bel.setCell ?_ (by first | omega | (simp; done) | (simp; omega) | (simp at *; omega)) _ | refine Bel.trans ?_ (by assumption)))⟩
            · have hq1 : r ≤ 1000 := by omega
              have hzz : errR X Y ts ks = 0 := by rw [← HeR.out]; exact hz
              have hlt : limTo ts ks X.length = lV := by rw [HlV.out, limV_ok hzz]
              by_cases hl : r ≤ lV
              · have HU0 := Lib.hid (show eU = 0 by rw [HeU.out]; exact errU_ok hzz ⟨hq0, hq1⟩ (by rw [hlt]; exact hl))
                subst hz
                rw [HU0.out]
                go_wp2_with fail
                refine (known_any _).mono ?_
                rintro e w9 ⟨rfl, hb9⟩
                go_wp2
                go_ret
                exact ⟨rfl, by (repeat (first | exact Bel.refl _ | assumption | refine Bel.drew ?_ | refine Bel.drewN ?_ _ | refine Bel.alloc ?_ _ | refine Bel.setCell ?_ (by first | omega | (simp; done) | (simp; omega) | (simp at *; omega)) _ | refine Bel.trans ?_ (by assumption)))⟩
              · have HU0 := Lib.hid (show eU = 9 by rw [HeU.out]; exact errU_short hzz ⟨hq0, hq1⟩ (by rw [hlt]; exact hl))
                subst hz
                have hl' : lV < r := by omega
                rw [HU0.out]
                go_wp2_with fail
                refine (known_any _).mono ?_
                rintro e w9 ⟨rfl, hb9⟩
                go_wp2
                go_ret
                exact ⟨by show Ending.returned (Value.bool (!decide (r ≤ lV))) = _; rw [decide_eq_false (show ¬ r ≤ lV by omega)]; rfl, by (repeat (first | exact Bel.refl _ | assumption | refine Bel.drew ?_ | refine Bel.drewN ?_ _ | refine Bel.alloc ?_ _ | refine Bel.setCell ?_ (by first | omega | (simp; done) | (simp; omega) | (simp at *; omega)) _ | refine Bel.trans ?_ (by assumption)))⟩
        · go_wp2_with fail
          refine (known_any _).mono ?_
          rintro e w9 ⟨rfl, hb9⟩
          go_wp2
          go_ret
          exact ⟨rfl, by (repeat (first | exact Bel.refl _ | assumption | refine Bel.drew ?_ | refine Bel.drewN ?_ _ | refine Bel.alloc ?_ _ | refine Bel.setCell ?_ (by first | omega | (simp; done) | (simp; omega) | (simp at *; omega)) _ | refine Bel.trans ?_ (by assumption)))⟩

set_option maxRecDepth 100000 in
set_option maxHeartbeats 1000000 in
theorem walk (A : Option Addr) (n c : Nat) (Zx : List RowZ) (B : Option Addr) (m d : Nat) (Zy : List RowZ) (T : Option Addr) (t u : Nat) (ts : List Int) (K : Option Addr) (k v : Nat) (ks : List Int) (r : Int) (w : World) (hx : ArgT w A n c Zx) (hy : ArgT w B m d Zy) (ht : ArgI w T t u ts) (hk : ArgI w K k v ks) :
    Calls Try.prog 12 #[.agg #[.slice A n c, .slice B m d], .agg #[.slice T t u, .slice K k v, .int .i64 r]] w fun e w' => e = .returned (.bool true) ∧ Bel w w' := by
  obtain ⟨x1, x2, x3⟩ := hx.els
  obtain ⟨y1, y2, y3⟩ := hy.els
  obtain ⟨f1, f2, f3⟩ := ht.els
  obtain ⟨k1, k2, k3⟩ := hk.els
  have hu9 := (reachN_le ht.reach (by omega)).1
  have hv9 := (reachN_le hk.reach (by omega)).1
  have hum := (reachN_le ht.reach (by omega)).2
  have hvm := (reachN_le hk.reach (by omega)).2
  have htu := ht.le
  have hkv := hk.le
  have Held := Lib.hid (fun w' (h : Bel ((w.alloc (.cells #[.slice A n c, .slice B m d] 24)).alloc (.cells #[.slice T t u, .slice K k v, .int .i64 r] 34)) w') => box_st h)
  have hb0 : Bel w ((w.alloc (.cells #[.slice A n c, .slice B m d] 24)).alloc (.cells #[.slice T t u, .slice K k v, .int .i64 r] 34)) := ((Bel.refl w).alloc _).alloc _

  go_enter Try.func12, Try.ntmps12
  go_wp2_with fail
  refine (keepTable_any A n c Zx _ (hx.bel hb0)).mono ?_
  rintro e w1 ⟨A', n', c', rfl, hn', hb1, hr1⟩
  have HN := Lib.hid hn'; clear hn'
  obtain ⟨g0, g1, g2, g3, g4⟩ := Held.out _ hb1
  go_wp2_with fail
  refine (keepTable_any B m d Zy _ (hy.bel (hb0.trans hb1))).mono ?_
  rintro e w2 ⟨B', m', d', rfl, hm', hb2, hr2⟩
  have HM := Lib.hid hm'; clear hm'
  clear g0 g1 g2 g3 g4
  have hB2 := hb1.trans hb2
  obtain ⟨g0, g1, g2, g3, g4⟩ := Held.out _ hB2
  go_wp2_with fail
  refine (keepInts_any T t u ts _ (ht.ints.bel (hb0.trans hB2)) ht.len ht.le ht.nil ht.reach).mono ?_
  rintro e w3 ⟨T', t', u', rfl, ht', hb3, hr3, -⟩
  have HT := Lib.hid ht'; clear ht'
  clear g0 g1 g2 g3 g4
  have hB3 := hB2.trans hb3
  obtain ⟨g0, g1, g2, g3, g4⟩ := Held.out _ hB3
  go_wp2_with fail
  refine (keepInts_any K k v ks _ (hk.ints.bel (hb0.trans hB3)) hk.len hk.le hk.nil hk.reach).mono ?_
  rintro e w4 ⟨K', k', v', rfl, hk', hb4, hr4, -⟩
  have HK := Lib.hid hk'; clear hk'
  clear g0 g1 g2 g3 g4
  have hB4 := hB3.trans hb4
  obtain ⟨g0, g1, g2, g3, g4⟩ := Held.out _ hB4
  go_wp2_with fail
  refine (inner A n c B m d _ _ T t u _ K k v _ r _ ⟨x1.bel (hb0.trans hB4), y1.bel (hb0.trans hB4), x2, y2⟩ (f1.bel (hb0.trans hB4)) f2 htu hum (k1.bel (hb0.trans hB4)) k2 hkv hvm).mono ?_
  rintro e w5 ⟨rfl, hb5⟩
  clear g0 g1 g2 g3 g4
  have hB5 := hB4.trans hb5
  obtain ⟨g0, g1, g2, g3, g4⟩ := Held.out _ hB5
  go_wp2_with fail
  refine (keptTable_any A' A n' c' n c Zx _ ((hr1.low (Nat.zero_le _)).bel (hb2.trans (hb3.trans (hb4.trans hb5)))) (hx.bel (hb0.trans hB5)) HN.out).mono ?_
  rintro e w6 ⟨rfl, hb6⟩
  clear g0 g1 g2 g3 g4
  have hB6 := hB5.trans hb6
  obtain ⟨g0, g1, g2, g3, g4⟩ := Held.out _ hB6
  go_wp2_with fail
  refine (keptTable_any B' B m' d' m d Zy _ ((hr2.low (Nat.zero_le _)).bel (hb3.trans (hb4.trans (hb5.trans hb6)))) (hy.bel (hb0.trans hB6)) HM.out).mono ?_
  rintro e w7 ⟨rfl, hb7⟩
  clear g0 g1 g2 g3 g4
  have hB7 := hB6.trans hb7
  obtain ⟨g0, g1, g2, g3, g4⟩ := Held.out _ hB7
  go_wp2_with fail
  refine (keptInts_any T' T t' u' t u ts _ (hr3.bel (hb4.trans (hb5.trans (hb6.trans hb7)))) (ht.ints.bel (hb0.trans hB7)) HT.out.symm ht.len ht.le ht.nil hu9).mono ?_
  rintro e w8 ⟨rfl, hb8⟩
  clear g0 g1 g2 g3 g4
  have hB8 := hB7.trans hb8
  obtain ⟨g0, g1, g2, g3, g4⟩ := Held.out _ hB8
  go_wp2_with fail
  refine (keptInts_any K' K k' v' k v ks _ (hr4.bel (hb5.trans (hb6.trans (hb7.trans hb8)))) (hk.ints.bel (hb0.trans hB8)) HK.out.symm hk.len hk.le hk.nil hv9).mono ?_
  rintro e w9 ⟨rfl, hb9⟩
  clear g0 g1 g2 g3 g4
  go_wp2
  go_ret
  exact ⟨rfl, hb0.trans (hB8.trans hb9)⟩

set_option maxRecDepth 100000 in
theorem lifted (os : Os) (started : os.Started) (H : Type) (enc : TypeId × Value → H) :
    ReturnsInHanded {} Try.checked os 12 .any (Rows.strikeRunsSpec.pre6 enc Try.prog Try.f12 Rows.strikeRunsRow.domain false) (Rows.strikeRunsSpec.post enc Try.prog Try.f12 false true false false) := by
  refine returnsInHanded_of_change_sized (C := Try.checked) own started (by kernel_rfl) Try.func12
    (ChangeSpec.witness6 (enc := enc) (C := Try.checked) false ⟨#[], #[.agg #[.slice none 0 0, .slice none 0 0], .agg #[.slice none 0 0, .slice none 0 0, .int .i64 0]], []⟩ 8 (by kernel_rfl) (by kernel_rfl) (by kernel_rfl) (by kernel_rfl)) ?_
  intro W base args ds gs before hval0 hW hcnd hsz0 _
  have hval : ∀ (j : Nat) t v, Try.f12.params[j]? = some t → args[j]? = some v → Value.okWide Try.prog W .any base t v := hval0
  have hsz : (DataW.weightsEach Try.prog (Try.f12.params.toList ++ Rows.strikeRunsSpec.plain.varTypes Try.prog) (ds ++ gs)).all (· ≤ reachBytes) = true := hsz0
  have hW' := hW
  obtain ⟨p, q, hA0, hV, rfl, hfz, hnd⟩ := hW
  have hA : DataW.TrodAll enc Try.prog W 0 (fun _ => true) true Try.f12.params.toList args.toList ds p := hA0
  rw [Try.params12] at hA hval hsz
  obtain ⟨v0, vs0, d0, ds0, p0, q0, hargs, rfl, rfl, h0, r0⟩ := trodAll_cons hA
  obtain ⟨v1, vs1, d1, ds1, p1, q1, rfl, rfl, rfl, h1, r1⟩ := trodAll_cons r0
  obtain ⟨rfl, rfl, rfl⟩ := trodAll_nil r1
  obtain rfl : args = #[v0, v1] := by cases args; simp_all
  obtain ⟨rfl, rfl⟩ := trodVars_none hV
  have k0 := h0
  have lt0 : ∀ x ∈ p0, x.block < W.heap.size := by obtain ⟨m, hm⟩ := k0; exact DataW.trod_lt m _ _ _ hm
  have k1 := h1
  have lt1 : ∀ x ∈ p1, x.block < W.heap.size := by obtain ⟨m, hm⟩ := k1; exact DataW.trod_lt m _ _ _ hm
  have hr0 : ∀ k ∈ d0.weights Try.prog 24, k ≤ reachN := fun k hk => by rw [← reach_eq]; simpa using List.all_eq_true.1 hsz k (DataW.weights_mem_each (j := 0) rfl rfl k hk)
  obtain ⟨A0, n0, c0, zx0, B0, m0, e0, zy0, rfl, a0, b0⟩ := open_strike (hval 0 24 v0 rfl rfl) h0 hr0
  have hr1 : ∀ k ∈ d1.weights Try.prog 34, k ≤ reachN := fun k hk => by rw [← reach_eq]; simpa using List.all_eq_true.1 hsz k (DataW.weights_mem_each (j := 1) rfl rfl k hk)
  obtain ⟨A1, n1, c1, zx1, B1, m1, e1, zy1, x1, rfl, a1, b1⟩ := open_stock (hval 1 34 v1 rfl rfl) h1 hr1
  clear hA0 hval0
  refine (walk A0 n0 c0 zx0 B0 m0 e0 zy0 A1 n1 c1 zx1 B1 m1 e1 zy1 x1 W a0 b0 a1 b1).mono fun e W' ⟨he, bel⟩ => ?_
  subst he
  exact ⟨_, rfl, _, _, _, [], _, [], hW', trodAll_mk1 (shut_bool Try.underlying4 _), trodAll_cons_mk (Below.trod laidOut (by kernel_rfl) (of_decide_eq_true (by kernel_rfl)) k0 bel lt0) (trodAll_cons_mk (Below.trod laidOut (by kernel_rfl) (of_decide_eq_true (by kernel_rfl)) k1 bel lt1) (trodAll_mk0)), rfl, Below.frame bel _, fun h => by cases h⟩

theorem over : Rows.strikeRunsRow.holds Try.pinned (OpenSpec.ofChange Rows.strikeRunsSpec) :=
  OpenClaim.holds_of_wide 12 Try.f12 rfl rfl rfl rfl rfl rfl rfl ⟨rfl, rfl, rfl, rfl, rfl⟩ rfl rfl rfl rfl rfl (by kernel_rfl) Try.func12 (by kernel_rfl)
    (of_decide_eq_true (by kernel_rfl)) (by unfold Func.isWrapper; rw [if_neg (of_decide_eq_false (by kernel_rfl))]; exact ⟨rfl, rfl⟩)
    (fun os started H enc _ => lifted os started H enc)

/-- The statement. -/
theorem proved : Rows.StrikeRunsSaid := over
end Go.Proofs.Ytfjegdejfccgaaa.strikeRuns
