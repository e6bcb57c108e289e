/-
  The statement StrikeKeepsSaid: for all strikes, weights and times: times balance exactly if both sides have the same elements, and then the weights of what is taken and of what is given are the same; the lists stay as they were in their spare cells, too, and the known answers come out. No condition.
-/
import Derived.Test.YtfjegdejfccgaaaZS
namespace Go.Proofs.Ytfjegdejfccgaaa.strikeKeeps
open Go.ChangeShapes Go.WideShapes Go.ChangeAt Go.RowKit Go.Joins

set_option maxRecDepth 100000 in
set_option maxHeartbeats 1000000 in
theorem inner (A : Option Addr) (n c : Nat) (B : Option Addr) (m d : Nat) (X Y : List (List Int)) (T : Option Addr) (t u : Nat) (ts : List Int) (K : Option Addr) (k v : Nat) (ks : List Int) (w : World) (hS : Strk w A n B m X Y) (hT : Ints w T ts) (ht : ts.length = t) (htu : t ≤ u) (hum : u ≤ maxLen) (hK : Ints w K ks) (hk : ks.length = k) (hkv : k ≤ v) (hvm : v ≤ maxLen) :
    Calls Try.prog 28 #[.agg #[.slice A n c, .slice B m d], .slice T t u, .slice K k v] w fun e w' => e = .returned (.bool true) ∧ Bel w w' := by
  have Hxn := Lib.hid hS.lx; have Hym := Lib.hid hS.ly
  have Ht := Lib.hid ht; have Hk := Lib.hid hk
  have htm : t ≤ maxLen := Nat.le_trans htu hum
  have hkm : k ≤ maxLen := Nat.le_trans hkv hvm
  obtain ⟨eT, heT⟩ : ∃ x, x = errT X Y ks := ⟨_, rfl⟩
  have HeT := Lib.hid heT; clear heT
  obtain ⟨vT, hvT⟩ : ∃ x, x = balV X Y ks := ⟨_, rfl⟩
  have HvT := Lib.hid hvT; clear hvT
  obtain ⟨eW, heW⟩ : ∃ x, x = errW X Y ts := ⟨_, rfl⟩
  have HeW := Lib.hid heW; clear heW
  obtain ⟨wV, hwV⟩ : ∃ x, x = weighV X Y ts := ⟨_, rfl⟩
  have HLwV := Lib.hid (show wV.length ≤ 6 by rw [hwV]; exact weighV_len X Y ts)
  have HwV := Lib.hid hwV; clear hwV
  obtain ⟨iV, hiV⟩ : ∃ x, x = inV X Y ks := ⟨_, rfl⟩
  have HLiV := Lib.hid (show iV.length ≤ 4 by rw [hiV]; exact inV_len X Y ks)
  have HiV := Lib.hid hiV; clear hiV
  obtain ⟨oV, hoV⟩ : ∃ x, x = outV X Y ks := ⟨_, rfl⟩
  have HoV := Lib.hid hoV; clear hoV
  have Held := Lib.hid (fun w' (h : Bel (w.alloc (.cells #[.slice A n c, .slice B m d] 24)) w') => box_sl h)
  have hb0 : Bel w (w.alloc (.cells #[.slice A n c, .slice B m d] 24)) := (Bel.refl w).alloc _
  obtain ⟨p, hp⟩ : ∃ p, p = decide (100 < t) := ⟨_, rfl⟩
  obtain ⟨q, hq⟩ : ∃ q, q = decide (100 < k) := ⟨_, rfl⟩
  have HP := Lib.hid hp; have HQ := Lib.hid hq
  clear hp hq
  go_enter Try.func28, Try.ntmps28
  go_wp2_with fail
  refine (long_any A B n c m d X Y _ (hS.bel hb0)).mono ?_
  rintro e w1 ⟨bl, rfl, hb1⟩
  obtain ⟨c0, c1⟩ := Held.out _ hb1
  cases bl with
  | true =>
    go_wp2_with fail
    refine (known_any _).mono ?_
    rintro e w9 ⟨rfl, hb9⟩
    go_wp2
    go_ret
    exact ⟨rfl, by (repeat (first | exact Bel.refl _ | assumption | refine Bel.drew ?_ | refine Bel.drewN ?_ _ | refine Bel.alloc ?_ _ | refine Bel.setCell ?_ (by first | omega | (simp; done) | (simp; omega) | (simp at *; omega)) _ | refine Bel.trans ?_ (by assumption)))⟩
  | false =>
    go_wp2_with fail
    refine (many_any T t u _).mono ?_
    rintro e w2 ⟨rfl, rfl⟩
    rw [← HP.out]
    cases p with
    | true =>
      go_wp2_with fail
      refine (known_any _).mono ?_
      rintro e w9 ⟨rfl, hb9⟩
      go_wp2
      go_ret
      exact ⟨rfl, by (repeat (first | exact Bel.refl _ | assumption | refine Bel.drew ?_ | refine Bel.drewN ?_ _ | refine Bel.alloc ?_ _ | refine Bel.setCell ?_ (by first | omega | (simp; done) | (simp; omega) | (simp at *; omega)) _ | refine Bel.trans ?_ (by assumption)))⟩
    | false =>
      go_wp2_with fail
      refine (many_any K k v _).mono ?_
      rintro e w2 ⟨rfl, rfl⟩
      rw [← HQ.out]
      cases q with
      | true =>
        go_wp2_with fail
        refine (known_any _).mono ?_
        rintro e w9 ⟨rfl, hb9⟩
        go_wp2
        go_ret
        exact ⟨rfl, by (repeat (first | exact Bel.refl _ | assumption | refine Bel.drew ?_ | refine Bel.drewN ?_ _ | refine Bel.alloc ?_ _ | refine Bel.setCell ?_ (by first | omega | (simp; done) | (simp; omega) | (simp at *; omega)) _ | refine Bel.trans ?_ (by assumption)))⟩
      | false =>
        have hB1 := hb1
        go_wp2_with fail
        refine (balances_any A B n c m d X Y K k v ks _ (hS.bel (hb0.trans hB1)) (hK.bel (hb0.trans hB1)) Hk.out hkv hvm).mono ?_
        rintro e w2 ⟨rfl, hb2⟩
        rw [← HvT.out, ← HeT.out]
        clear c0 c1
        have hB2 := hB1.trans hb2
        obtain ⟨c0, c1⟩ := Held.out _ hB2
        go_wp2_with fail
        refine (weigh_any A B n c m d X Y T t u ts _ (hS.bel (hb0.trans hB2)) (hT.bel (hb0.trans hB2)) Ht.out htm).mono ?_
        rintro e w3 ⟨A3, n3, c3, rfl, hn3, hb3, hI3⟩
        rw [← HwV.out] at hn3 hI3
        rw [← HeW.out]
        have HN3 := Lib.hid hn3.symm; clear hn3
        clear c0 c1
        have hB3 := hB2.trans hb3
        obtain ⟨c0, c1⟩ := Held.out _ hB3
        go_wp2_with fail
        refine (elements_any A B n c m d X Y K k v ks _ (hS.bel (hb0.trans hB3)) (hK.bel (hb0.trans hB3)) Hk.out hkv hvm).mono ?_
        rintro e w4 ⟨A6, n6, c6, A7, n7, c7, rfl, hn6, hn7, hb4, hI6, hI7⟩
        rw [← HiV.out] at hn6 hI6
        rw [← HoV.out] at hn7 hI7
        rw [← HeT.out]
        have HN6 := Lib.hid hn6.symm; clear hn6
        have HN7 := Lib.hid hn7.symm; clear hn7
        clear c0 c1
        have hB4 := hB3.trans hb4
        obtain ⟨c0, c1⟩ := Held.out _ hB4
        by_cases hz : eT = 0
        · have HQ := Lib.hid (show decide (iV = oV) = vT by rw [HiV.out, HoV.out, HvT.out]; exact inOut (by rw [← HeT.out]; exact hz))
          subst hz
          go_wp2_with fail
          refine (sameInts_all A6 A7 n6 c6 n7 c7 iV oV _ (hI6.bel (by (repeat (first | exact Bel.refl _ | assumption | refine Bel.drew ?_ | refine Bel.drewN ?_ _ | refine Bel.alloc ?_ _ | refine Bel.setCell ?_ (by first | omega | (simp; done) | (simp; omega) | (simp at *; omega)) _ | refine Bel.trans ?_ (by assumption))))) (hI7.bel (by (repeat (first | exact Bel.refl _ | assumption | refine Bel.drew ?_ | refine Bel.drewN ?_ _ | refine Bel.alloc ?_ _ | refine Bel.setCell ?_ (by first | omega | (simp; done) | (simp; omega) | (simp at *; omega)) _ | refine Bel.trans ?_ (by assumption))))) HN6.out HN7.out (by have := HN6.out; have := HLiV.out; unfold maxLen; omega)).mono ?_
          rintro e w5 ⟨rfl, hb5⟩
          rw [HQ.out]
          cases vT with
          | false =>
            go_wp2_with fail
            refine (known_any _).mono ?_
            rintro e w9 ⟨rfl, hb9⟩
            go_wp2
            go_ret
            exact ⟨rfl, by (repeat (first | exact Bel.refl _ | assumption | refine Bel.drew ?_ | refine Bel.drewN ?_ _ | refine Bel.alloc ?_ _ | refine Bel.setCell ?_ (by first | omega | (simp; done) | (simp; omega) | (simp at *; omega)) _ | refine Bel.trans ?_ (by assumption)))⟩
          | true =>
            by_cases hw0 : eW = 0
            · subst hw0
              have HZT := Lib.hid (show errT X Y ks = 0 from HeT.out.symm)
              have HZW := Lib.hid (show errW X Y ts = 0 from HeW.out.symm)
              have HB0 := Lib.hid (balV_zero HvT.out.symm).2
              have HTK := Lib.hid (tm_of (tmB_zero HZT.out))
              have hstr := str_of (errT_zero HZT.out)
              have hx3 := hstr.x3; have hy3 := hstr.y3
              have hkl : X.length + Y.length = k := by have := HTK.out.2; rw [Hk.out] at this; omega
              have HWL := Lib.hid (show wV = weighL X Y ts by rw [HwV.out]; unfold weighV; rw [if_pos HZW.out])
              have hwl : n3 = k := by rw [← HN3.out, HWL.out]; simp only [weighL, List.length_map, List.length_append]; exact hkl
              have HKL := Lib.hid hkl
              have hk6 : k ≤ 6 := by omega
              have hki : (k : Int) ≤ 6 := by omega
              subst hwl
              have HXN := Lib.hid hS.lx
              have J3 := (hI3.bel hb4).bel hb5
              have hB5 := hB4.trans hb5
              clear hstr hx3 hy3 hkl
              go_wp2
              go_loopw [14, 15] (fun s i wr => ∃ j : Nat, j ≤ n3 ∧ i = .int .i64 j ∧ s = .int .i64 (swT (colL X Y) ts ks (elN X) j) ∧ Bel w5 wr) (fun _ i _ => n3 - (intOf i).toNat)
              case atStart => exact ⟨0, Nat.zero_le _, rfl, rfl, Bel.refl _⟩
              case round =>
                obtain ⟨j, hjt, rfl, rfl, hbr⟩ := hrel
                have hB9 := hB5.trans hbr
                clear c0 c1
                obtain ⟨c0, c1⟩ := Held.out _ hB9
                by_cases hlt : j < n3
                · obtain ⟨b, o, a, rfl, hbl, hg, hx1⟩ := (J3.bel hbr).at_ (k := j) (by rw [HN3.out]; exact hlt)
                  obtain ⟨b', o', y, rfl, hbl', hg', hy1'⟩ := (hK.bel (hb0.trans hB9)).at_ (k := j) (by rw [Hk.out]; exact hlt)
                  have hjt' : (j : Int) < (n3 : Int) := by omega
                  rw [HWL.out] at hg
                  obtain ⟨a0, a9⟩ := (row_bds HZW.out).2 a (List.mem_of_getElem? hg)
                  obtain ⟨y0, y9⟩ := HTK.out.1 y (List.mem_of_getElem? hg')
                  obtain ⟨m0, m9⟩ := mul_bd a0 a9 y0 y9
                  obtain ⟨s0, s9⟩ := sw_ok (X := X) (Y := Y) HZW.out HZT.out j (by omega)
                  by_cases hin : j < n
                  · have HSW := Lib.hid (sw_in (Y := Y) (by rw [HXN.out]; exact hin) hg hg')
                    have hini : (j : Int) < (n : Int) := by omega
                    obtain ⟨s, hs⟩ : ∃ s, s = swT (colL X Y) ts ks (elN X) j := ⟨_, rfl⟩
                    rw [← hs] at s0 s9 HSW ⊢
                    clear hg hg' hs
                    go_wp2
                    go_quiet (fail)
                    go_wp2
                    go_roundw
                    case rel => exact ⟨j + 1, by omega, by go_num, by rw [HSW.out], by (repeat (first | exact Bel.refl _ | assumption | refine Bel.drew ?_ | refine Bel.drewN ?_ _ | refine Bel.alloc ?_ _ | refine Bel.setCell ?_ (by first | omega | (simp; done) | (simp; omega) | (simp at *; omega)) _ | refine Bel.trans ?_ (by assumption)))⟩
                    case measure => simp [intOf]; omega
                  · have HSW := Lib.hid (sw_out (Y := Y) (by rw [HXN.out]; omega) (by rw [HKL.out]; exact hlt) hg hg')
                    have hini : (n : Int) ≤ (j : Int) := by omega
                    obtain ⟨s, hs⟩ : ∃ s, s = swT (colL X Y) ts ks (elN X) j := ⟨_, rfl⟩
                    rw [← hs] at s0 s9 HSW ⊢
                    clear hg hg' hs hin
                    go_wp2
                    go_quiet (fail)
                    go_wp2
                    go_roundw
                    case rel => exact ⟨j + 1, by omega, by go_num, by rw [HSW.out], by (repeat (first | exact Bel.refl _ | assumption | refine Bel.drew ?_ | refine Bel.drewN ?_ _ | refine Bel.alloc ?_ _ | refine Bel.setCell ?_ (by first | omega | (simp; done) | (simp; omega) | (simp at *; omega)) _ | refine Bel.trans ?_ (by assumption)))⟩
                    case measure => simp [intOf]; omega
                · obtain rfl : j = n3 := by omega
                  have HEND := Lib.hid (show swT (colL X Y) ts ks (elN X) j = 0 by rw [← HKL.out]; exact swT_bal HB0.out)
                  rw [HEND.out]
                  go_wp2_with fail
                  refine (known_any _).mono ?_
                  rintro e w9 ⟨rfl, hb9⟩
                  go_wp2
                  go_ret
                  exact ⟨rfl, by (repeat (first | exact Bel.refl _ | assumption | refine Bel.drew ?_ | refine Bel.drewN ?_ _ | refine Bel.alloc ?_ _ | refine Bel.setCell ?_ (by first | omega | (simp; done) | (simp; omega) | (simp at *; omega)) _ | refine Bel.trans ?_ (by assumption)))⟩
            · go_wp2_with fail
              refine (known_any _).mono ?_
              rintro e w9 ⟨rfl, hb9⟩
              go_wp2
              go_ret
              exact ⟨rfl, by (repeat (first | exact Bel.refl _ | assumption | refine Bel.drew ?_ | refine Bel.drewN ?_ _ | refine Bel.alloc ?_ _ | refine Bel.setCell ?_ (by first | omega | (simp; done) | (simp; omega) | (simp at *; omega)) _ | refine Bel.trans ?_ (by assumption)))⟩
        · go_wp2_with fail
          refine (known_any _).mono ?_
          rintro e w9 ⟨rfl, hb9⟩
          go_wp2
          go_ret
          exact ⟨rfl, by (repeat (first | exact Bel.refl _ | assumption | refine Bel.drew ?_ | refine Bel.drewN ?_ _ | refine Bel.alloc ?_ _ | refine Bel.setCell ?_ (by first | omega | (simp; done) | (simp; omega) | (simp at *; omega)) _ | refine Bel.trans ?_ (by assumption)))⟩

set_option maxRecDepth 100000 in
set_option maxHeartbeats 1000000 in
theorem walk (A : Option Addr) (n c : Nat) (Zx : List RowZ) (B : Option Addr) (m d : Nat) (Zy : List RowZ) (T : Option Addr) (t u : Nat) (ts : List Int) (K : Option Addr) (k v : Nat) (ks : List Int) (w : World) (hx : ArgT w A n c Zx) (hy : ArgT w B m d Zy) (ht : ArgI w T t u ts) (hk : ArgI w K k v ks) :
    Calls Try.prog 10 #[.agg #[.slice A n c, .slice B m d], .slice T t u, .slice K k v] w fun e w' => e = .returned (.bool true) ∧ Bel w w' := by
  obtain ⟨x1, x2, x3⟩ := hx.els
  obtain ⟨y1, y2, y3⟩ := hy.els
  obtain ⟨f1, f2, f3⟩ := ht.els
  obtain ⟨k1, k2, k3⟩ := hk.els
  have hu9 := (reachN_le ht.reach (by omega)).1
  have hv9 := (reachN_le hk.reach (by omega)).1
  have hum := (reachN_le ht.reach (by omega)).2
  have hvm := (reachN_le hk.reach (by omega)).2
  have htu := ht.le
  have hkv := hk.le
  have Held := Lib.hid (fun w' (h : Bel (w.alloc (.cells #[.slice A n c, .slice B m d] 24)) w') => box_sl h)
  have hb0 : Bel w (w.alloc (.cells #[.slice A n c, .slice B m d] 24)) := (Bel.refl w).alloc _

  go_enter Try.func10, Try.ntmps10
  go_wp2_with fail
  refine (keepTable_any A n c Zx _ (hx.bel hb0)).mono ?_
  rintro e w1 ⟨A', n', c', rfl, hn', hb1, hr1⟩
  have HN := Lib.hid hn'; clear hn'
  obtain ⟨c0, c1⟩ := Held.out _ hb1
  go_wp2_with fail
  refine (keepTable_any B m d Zy _ (hy.bel (hb0.trans hb1))).mono ?_
  rintro e w2 ⟨B', m', d', rfl, hm', hb2, hr2⟩
  have HM := Lib.hid hm'; clear hm'
  clear c0 c1
  have hB2 := hb1.trans hb2
  obtain ⟨c0, c1⟩ := Held.out _ hB2
  go_wp2_with fail
  refine (keepInts_any T t u ts _ (ht.ints.bel (hb0.trans hB2)) ht.len ht.le ht.nil ht.reach).mono ?_
  rintro e w3 ⟨T', t', u', rfl, ht', hb3, hr3, -⟩
  have HT := Lib.hid ht'; clear ht'
  clear c0 c1
  have hB3 := hB2.trans hb3
  obtain ⟨c0, c1⟩ := Held.out _ hB3
  go_wp2_with fail
  refine (keepInts_any K k v ks _ (hk.ints.bel (hb0.trans hB3)) hk.len hk.le hk.nil hk.reach).mono ?_
  rintro e w4 ⟨K', k', v', rfl, hk', hb4, hr4, -⟩
  have HK := Lib.hid hk'; clear hk'
  clear c0 c1
  have hB4 := hB3.trans hb4
  obtain ⟨c0, c1⟩ := Held.out _ hB4
  go_wp2_with fail
  refine (inner A n c B m d _ _ T t u _ K k v _ _ ⟨x1.bel (hb0.trans hB4), y1.bel (hb0.trans hB4), x2, y2⟩ (f1.bel (hb0.trans hB4)) f2 htu hum (k1.bel (hb0.trans hB4)) k2 hkv hvm).mono ?_
  rintro e w5 ⟨rfl, hb5⟩
  clear c0 c1
  have hB5 := hB4.trans hb5
  obtain ⟨c0, c1⟩ := Held.out _ hB5
  go_wp2_with fail
  refine (keptTable_any A' A n' c' n c Zx _ ((hr1.low (Nat.zero_le _)).bel (hb2.trans (hb3.trans (hb4.trans hb5)))) (hx.bel (hb0.trans hB5)) HN.out).mono ?_
  rintro e w6 ⟨rfl, hb6⟩
  clear c0 c1
  have hB6 := hB5.trans hb6
  obtain ⟨c0, c1⟩ := Held.out _ hB6
  go_wp2_with fail
  refine (keptTable_any B' B m' d' m d Zy _ ((hr2.low (Nat.zero_le _)).bel (hb3.trans (hb4.trans (hb5.trans hb6)))) (hy.bel (hb0.trans hB6)) HM.out).mono ?_
  rintro e w7 ⟨rfl, hb7⟩
  clear c0 c1
  have hB7 := hB6.trans hb7
  obtain ⟨c0, c1⟩ := Held.out _ hB7
  go_wp2_with fail
  refine (keptInts_any T' T t' u' t u ts _ (hr3.bel (hb4.trans (hb5.trans (hb6.trans hb7)))) (ht.ints.bel (hb0.trans hB7)) HT.out.symm ht.len ht.le ht.nil hu9).mono ?_
  rintro e w8 ⟨rfl, hb8⟩
  clear c0 c1
  have hB8 := hB7.trans hb8
  obtain ⟨c0, c1⟩ := Held.out _ hB8
  go_wp2_with fail
  refine (keptInts_any K' K k' v' k v ks _ (hr4.bel (hb5.trans (hb6.trans (hb7.trans hb8)))) (hk.ints.bel (hb0.trans hB8)) HK.out.symm hk.len hk.le hk.nil hv9).mono ?_
  rintro e w9 ⟨rfl, hb9⟩
  clear c0 c1
  go_wp2
  go_ret
  exact ⟨rfl, hb0.trans (hB8.trans hb9)⟩

set_option maxRecDepth 100000 in
theorem lifted (os : Os) (started : os.Started) (H : Type) (enc : TypeId × Value → H) :
    ReturnsInHanded {} Try.checked os 10 .any (Rows.strikeKeepsSpec.pre6 enc Try.prog Try.f10 Rows.strikeKeepsRow.domain false) (Rows.strikeKeepsSpec.post enc Try.prog Try.f10 false true false false) := by
  refine returnsInHanded_of_change_sized (C := Try.checked) own started (by kernel_rfl) Try.func10
    (ChangeSpec.witness6 (enc := enc) (C := Try.checked) false ⟨#[], #[.agg #[.slice none 0 0, .slice none 0 0], .slice none 0 0, .slice none 0 0], []⟩ 8 (by kernel_rfl) (by kernel_rfl) (by kernel_rfl) (by kernel_rfl)) ?_
  intro W base args ds gs before hval0 hW hcnd hsz0 _
  have hval : ∀ (j : Nat) t v, Try.f10.params[j]? = some t → args[j]? = some v → Value.okWide Try.prog W .any base t v := hval0
  have hsz : (DataW.weightsEach Try.prog (Try.f10.params.toList ++ Rows.strikeKeepsSpec.plain.varTypes Try.prog) (ds ++ gs)).all (· ≤ reachBytes) = true := hsz0
  have hW' := hW
  obtain ⟨p, q, hA0, hV, rfl, hfz, hnd⟩ := hW
  have hA : DataW.TrodAll enc Try.prog W 0 (fun _ => true) true Try.f10.params.toList args.toList ds p := hA0
  rw [Try.params10] at hA hval hsz
  obtain ⟨v0, vs0, d0, ds0, p0, q0, hargs, rfl, rfl, h0, r0⟩ := trodAll_cons hA
  obtain ⟨v1, vs1, d1, ds1, p1, q1, rfl, rfl, rfl, h1, r1⟩ := trodAll_cons r0
  obtain ⟨v2, vs2, d2, ds2, p2, q2, rfl, rfl, rfl, h2, r2⟩ := trodAll_cons r1
  obtain ⟨rfl, rfl, rfl⟩ := trodAll_nil r2
  obtain rfl : args = #[v0, v1, v2] := by cases args; simp_all
  obtain ⟨rfl, rfl⟩ := trodVars_none hV
  have k0 := h0
  have lt0 : ∀ x ∈ p0, x.block < W.heap.size := by obtain ⟨m, hm⟩ := k0; exact DataW.trod_lt m _ _ _ hm
  have k1 := h1
  have lt1 : ∀ x ∈ p1, x.block < W.heap.size := by obtain ⟨m, hm⟩ := k1; exact DataW.trod_lt m _ _ _ hm
  have k2 := h2
  have lt2 : ∀ x ∈ p2, x.block < W.heap.size := by obtain ⟨m, hm⟩ := k2; exact DataW.trod_lt m _ _ _ hm
  have hr0 : ∀ k ∈ d0.weights Try.prog 24, k ≤ reachN := fun k hk => by rw [← reach_eq]; simpa using List.all_eq_true.1 hsz k (DataW.weights_mem_each (j := 0) rfl rfl k hk)
  obtain ⟨A0, n0, c0, zx0, B0, m0, e0, zy0, rfl, a0, b0⟩ := open_strike (hval 0 24 v0 rfl rfl) h0 hr0
  have hr1 : ∀ k ∈ d1.weights Try.prog 28, k ≤ reachN := fun k hk => by rw [← reach_eq]; simpa using List.all_eq_true.1 hsz k (DataW.weights_mem_each (j := 1) rfl rfl k hk)
  obtain ⟨A1, n1, c1, zs1, rfl, a1⟩ := open_argI (hval 1 28 v1 rfl rfl) h1 hr1
  have hr2 : ∀ k ∈ d2.weights Try.prog 28, k ≤ reachN := fun k hk => by rw [← reach_eq]; simpa using List.all_eq_true.1 hsz k (DataW.weights_mem_each (j := 2) rfl rfl k hk)
  obtain ⟨A2, n2, c2, zs2, rfl, a2⟩ := open_argI (hval 2 28 v2 rfl rfl) h2 hr2
  clear hA0 hval0
  refine (walk A0 n0 c0 zx0 B0 m0 e0 zy0 A1 n1 c1 zs1 A2 n2 c2 zs2 W a0 b0 a1 a2).mono fun e W' ⟨he, bel⟩ => ?_
  subst he
  exact ⟨_, rfl, _, _, _, [], _, [], hW', trodAll_mk1 (shut_bool Try.underlying4 _), trodAll_cons_mk (Below.trod laidOut (by kernel_rfl) (of_decide_eq_true (by kernel_rfl)) k0 bel lt0) (trodAll_cons_mk (Below.trod laidOut (by kernel_rfl) (of_decide_eq_true (by kernel_rfl)) k1 bel lt1) (trodAll_cons_mk (Below.trod laidOut (by kernel_rfl) (of_decide_eq_true (by kernel_rfl)) k2 bel lt2) (trodAll_mk0))), rfl, Below.frame bel _, fun h => by cases h⟩

theorem over : Rows.strikeKeepsRow.holds Try.pinned (OpenSpec.ofChange Rows.strikeKeepsSpec) :=
  OpenClaim.holds_of_wide 10 Try.f10 rfl rfl rfl rfl rfl rfl rfl ⟨rfl, rfl, rfl, rfl, rfl⟩ rfl rfl rfl rfl rfl (by kernel_rfl) Try.func10 (by kernel_rfl)
    (of_decide_eq_true (by kernel_rfl)) (by unfold Func.isWrapper; rw [if_neg (of_decide_eq_false (by kernel_rfl))]; exact ⟨rfl, rfl⟩)
    (fun os started H enc _ => lifted os started H enc)

/-- The statement. -/
theorem proved : Rows.StrikeKeepsSaid := over
end Go.Proofs.Ytfjegdejfccgaaa.strikeKeeps
