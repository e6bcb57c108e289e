/-
  The statement StrikeBalancesSaid: for all strikes and times Balances answers as the document says, sums of two lists that balance do, too; the lists stay as they were in their spare cells, too, and the known answers come out. No condition.
-/
import Derived.Test.YtfjegdejfccgaaaZR
namespace Go.Proofs.Ytfjegdejfccgaaa.strikeBalances
open Go.ChangeShapes Go.WideShapes Go.ChangeAt Go.RowKit Go.Joins

set_option maxRecDepth 100000 in
set_option maxHeartbeats 1000000 in
theorem inner (A : Option Addr) (n c : Nat) (B : Option Addr) (m d : Nat) (X Y : List (List Int)) (T : Option Addr) (t u : Nat) (ts : List Int) (K : Option Addr) (k v : Nat) (ks : List Int) (w : World) (hS : Strk w A n B m X Y) (hT : Ints w T ts) (ht : ts.length = t) (htu : t ≤ u) (hum : u ≤ maxLen) (hK : Ints w K ks) (hk : ks.length = k) (hkv : k ≤ v) (hvm : v ≤ maxLen) :
    Calls Try.prog 21 #[.agg #[.slice A n c, .slice B m d], .slice T t u, .slice K k v] w fun e w' => e = .returned (.bool true) ∧ Bel w w' := by
  have Hxn := Lib.hid hS.lx; have Hym := Lib.hid hS.ly
  have Ht := Lib.hid ht; have Hk := Lib.hid hk
  have htm : t ≤ maxLen := Nat.le_trans htu hum
  have hkm : k ≤ maxLen := Nat.le_trans hkv hvm
  obtain ⟨eT, heT⟩ : ∃ x, x = errT X Y ts := ⟨_, rfl⟩
  have HeT := Lib.hid heT; clear heT
  obtain ⟨vT, hvT⟩ : ∃ x, x = balV X Y ts := ⟨_, rfl⟩
  have HvT := Lib.hid hvT; clear hvT
  obtain ⟨eO, heO⟩ : ∃ x, x = errT X Y ks := ⟨_, rfl⟩
  have HeO := Lib.hid heO; clear heO
  obtain ⟨vO, hvO⟩ : ∃ x, x = balV X Y ks := ⟨_, rfl⟩
  have HvO := Lib.hid hvO; clear hvO
  have Held := Lib.hid (fun w' (h : Bel (w.alloc (.cells #[.slice A n c, .slice B m d] 24)) w') => box_sl h)
  have hb0 : Bel w (w.alloc (.cells #[.slice A n c, .slice B m d] 24)) := (Bel.refl w).alloc _
  obtain ⟨p, hp⟩ : ∃ p, p = decide (100 < t) := ⟨_, rfl⟩
  obtain ⟨q, hq⟩ : ∃ q, q = decide (100 < k) := ⟨_, rfl⟩
  have HP := Lib.hid hp; have HQ := Lib.hid hq
  clear hp hq
  go_enter Try.func21, Try.ntmps21
  go_wp2_with fail
  refine (long_any A B n c m d X Y _ (hS.bel hb0)).mono ?_
  rintro e w1 ⟨bl, rfl, hb1⟩
  obtain ⟨c0, c1⟩ := Held.out _ hb1
  cases bl with
  | true =>
    go_wp2_with fail
    refine (known_any _).mono ?_
    rintro e w9 ⟨rfl, hb9⟩
    go_wp2
    go_ret
    exact ⟨rfl, by (repeat (first | exact Bel.refl _ | assumption | refine Bel.drew ?_ | refine Bel.drewN ?_ _ | refine Bel.alloc ?_ _ | refine Bel.setCell ?_ (by first | omega | (simp; done) | (simp; omega) | (simp at *; omega)) _ | refine Bel.trans ?_ (by assumption)))⟩
  | false =>
    go_wp2_with fail
    refine (many_any T t u _).mono ?_
    rintro e w2 ⟨rfl, rfl⟩
    rw [← HP.out]
    cases p with
    | true =>
      go_wp2_with fail
      refine (known_any _).mono ?_
      rintro e w9 ⟨rfl, hb9⟩
      go_wp2
      go_ret
      exact ⟨rfl, by (repeat (first | exact Bel.refl _ | assumption | refine Bel.drew ?_ | refine Bel.drewN ?_ _ | refine Bel.alloc ?_ _ | refine Bel.setCell ?_ (by first | omega | (simp; done) | (simp; omega) | (simp at *; omega)) _ | refine Bel.trans ?_ (by assumption)))⟩
    | false =>
      go_wp2_with fail
      refine (many_any K k v _).mono ?_
      rintro e w2 ⟨rfl, rfl⟩
      rw [← HQ.out]
      cases q with
      | true =>
        go_wp2_with fail
        refine (known_any _).mono ?_
        rintro e w9 ⟨rfl, hb9⟩
        go_wp2
        go_ret
        exact ⟨rfl, by (repeat (first | exact Bel.refl _ | assumption | refine Bel.drew ?_ | refine Bel.drewN ?_ _ | refine Bel.alloc ?_ _ | refine Bel.setCell ?_ (by first | omega | (simp; done) | (simp; omega) | (simp at *; omega)) _ | refine Bel.trans ?_ (by assumption)))⟩
      | false =>
        have hB1 := hb1
        go_wp2_with fail
        refine (rBalances_any A B n c m d X Y T t u ts _ (hS.bel (hb0.trans hB1)) (hT.bel (hb0.trans hB1)) Ht.out htm).mono ?_
        rintro e w2 ⟨rfl, hb2⟩
        rw [← HvT.out, ← HeT.out]
        clear c0 c1
        have hB2 := hB1.trans hb2
        obtain ⟨c0, c1⟩ := Held.out _ hB2
        go_wp2_with fail
        refine (balances_any A B n c m d X Y T t u ts _ (hS.bel (hb0.trans hB2)) (hT.bel (hb0.trans hB2)) Ht.out htu hum).mono ?_
        rintro e w3 ⟨rfl, hb3⟩
        rw [← HvT.out, ← HeT.out]
        clear c0 c1
        have hB3 := hB2.trans hb3
        obtain ⟨c0, c1⟩ := Held.out _ hB3
        go_wp2_with fail
        refine (balances_any A B n c m d X Y K k v ks _ (hS.bel (hb0.trans hB3)) (hK.bel (hb0.trans hB3)) Hk.out hkv hvm).mono ?_
        rintro e w4 ⟨rfl, hb4⟩
        rw [← HvO.out, ← HeO.out]
        clear c0 c1
        have hB4 := hB3.trans hb4
        obtain ⟨c0, c1⟩ := Held.out _ hB4
        have ht100 : t ≤ 100 := by have := HP.out; simp at this; omega
        have hti : (t : Int) ≤ 100 := by omega
        cases vT with
        | false =>
          go_wp2_with fail
          refine (known_any _).mono ?_
          rintro e w9 ⟨rfl, hb9⟩
          go_wp2
          go_ret
          exact ⟨rfl, by (repeat (first | exact Bel.refl _ | assumption | refine Bel.drew ?_ | refine Bel.drewN ?_ _ | refine Bel.alloc ?_ _ | refine Bel.setCell ?_ (by first | omega | (simp; done) | (simp; omega) | (simp at *; omega)) _ | refine Bel.trans ?_ (by assumption)))⟩
        | true =>
          cases vO with
          | false =>
            go_wp2_with fail
            refine (known_any _).mono ?_
            rintro e w9 ⟨rfl, hb9⟩
            go_wp2
            go_ret
            exact ⟨rfl, by (repeat (first | exact Bel.refl _ | assumption | refine Bel.drew ?_ | refine Bel.drewN ?_ _ | refine Bel.alloc ?_ _ | refine Bel.setCell ?_ (by first | omega | (simp; done) | (simp; omega) | (simp at *; omega)) _ | refine Bel.trans ?_ (by assumption)))⟩
          | true =>
            have HV1 := Lib.hid (HvT.out.symm)
            have HV2 := Lib.hid (HvO.out.symm)
            have hz2 : eO = 0 := by rw [HeO.out]; exact (balV_zero HV2.out).1
            have HTB := Lib.hid (tm_of (tmB_zero (balV_zero HV1.out).1)).1
            have HKB := Lib.hid (tm_of (tmB_zero (balV_zero HV2.out).1)).1
            subst hz2
            by_cases htk : t = k
            · subst htk
              obtain ⟨i1, hj, hy0, hy1, hy2⟩ := info_parts info1I
              go_wp2
              go_loopw [13, 14] (fun v i wr => ∃ j : Nat, j ≤ t ∧ i = .int .i64 j ∧ Bel w4 wr ∧ Own1 3 w4.heap.size wr v (addTo ts ks j) ∧ (∀ (i : Nat) (a b : Int), i < j → ts[i]? = some a → ks[i]? = some b → -1000000 ≤ a + b ∧ a + b ≤ 1000000)) (fun _ i _ => t - (intOf i).toNat)
              case atStart => exact ⟨0, Nat.zero_le _, rfl, Bel.refl _, Own1.nil _ _ _, fun i a b h => absurd h (Nat.not_lt_zero _)⟩
              case round =>
                obtain ⟨j, hjt, rfl, hbr, hO, hB⟩ := hrel
                by_cases hlt : j < t
                · obtain ⟨b, o, x, rfl, hbl, hg, hx0⟩ := (hT.bel (hb0.trans hB4)).at_ (k := j) (by rw [Ht.out]; exact hlt)
                  obtain ⟨b', o', y, rfl, hbl', hg', hy0'⟩ := (hK.bel (hb0.trans hB4)).at_ (k := j) (by rw [Hk.out]; exact hlt)
                  have Hel2 := Lib.hid (fun w' (h : Bel w4 w') => show w'.cell? ⟨b, o + j, none⟩ = some (.int .i64 x) ∧ w'.cell? ⟨b', o' + j, none⟩ = some (.int .i64 y) from ⟨by rw [h.use.1 _ _ hbl]; exact hx0, by rw [h.use.1 _ _ hbl']; exact hy0'⟩)
                  clear hx0 hy0'
                  obtain ⟨hx1, hy1'⟩ := Hel2.out _ hbr
                  have hjt' : (j : Int) < (t : Int) := by omega
                  obtain ⟨x0, x9⟩ := HTB.out x (List.mem_of_getElem? hg)
                  obtain ⟨y0, y9⟩ := HKB.out y (List.mem_of_getElem? hg')
                  have k1 : IntKind.i64.wrap (x + y) = x + y := IntWalk.i64_in _ (by omega)
                  by_cases hc1 : 1000000 < x + y
                  · go_wp2
                    go_quiet (fail)
                    go_wp2_with fail
                    refine (known_any _).mono ?_
                    rintro e w9 ⟨rfl, hb9⟩
                    go_wp2
                    go_ret
                    exact ⟨rfl, by (repeat (first | exact Bel.refl _ | assumption | refine Bel.drew ?_ | refine Bel.drewN ?_ _ | refine Bel.alloc ?_ _ | refine Bel.setCell ?_ (by first | omega | (simp; done) | (simp; omega) | (simp at *; omega)) _ | refine Bel.trans ?_ (by assumption)))⟩
                  · have hc1' : x + y ≤ 1000000 := by clear k1; omega
                    have hd1 : decide (1000000 < x + y) = false := decide_eq_false hc1
                    clear hc1
                    by_cases hc2 : x + y < -1000000
                    · go_wp2
                      go_quiet (fail)
                      go_wp2_with fail
                      refine (known_any _).mono ?_
                      rintro e w9 ⟨rfl, hb9⟩
                      go_wp2
                      go_ret
                      exact ⟨rfl, by (repeat (first | exact Bel.refl _ | assumption | refine Bel.drew ?_ | refine Bel.drewN ?_ _ | refine Bel.alloc ?_ _ | refine Bel.setCell ?_ (by first | omega | (simp; done) | (simp; omega) | (simp at *; omega)) _ | refine Bel.trans ?_ (by assumption)))⟩
                    · have hc2' : -1000000 ≤ x + y := by clear k1; omega
                      have hd2 : decide (x + y < -1000000) = false := decide_eq_false hc2
                      clear hc2
                      have HSX := Lib.hid (add_step hg hg')
                      have HLX := Lib.hid (addTo_len ts ks j)
                      have HBX := Lib.hid (show ∀ (i : Nat) (a b : Int), i < j + 1 → ts[i]? = some a → ks[i]? = some b → -1000000 ≤ a + b ∧ a + b ≤ 1000000 from fun i a b hi ha hb' => by
                        clear k1
                        rcases Nat.lt_or_ge i j with h | h
                        · exact hB i a b h ha hb'
                        · obtain rfl : i = j := by omega
                          rw [hg] at ha; rw [hg'] at hb'
                          cases ha; cases hb'
                          exact ⟨hc2', hc1'⟩)
                      obtain ⟨P, hP⟩ : ∃ P, P = addTo ts ks j := ⟨_, rfl⟩
                      rw [← hP] at hO HSX HLX
                      have hOl : wr.ownsRow w4.heap.size 3 1 u13 j (P.map fun x => .int .i64 x) := by
                        have h4 := hO
                        unfold Own1 at h4
                        rw [HLX.out] at h4
                        exact h4
                      have HOL := Lib.hid hOl
                      have hX1 := Lib.hid (show j + 1 ≤ maxLen by clear k1; unfold maxLen; omega)
                      have hX2 := Lib.hid (show (j + 1) * 8 ≤ 140737488355328 by clear k1; omega)
                      have hwz := hbr.size
                      have HJM := Lib.hid (show t - (j + 1) < t - j by clear k1; omega)
                      have HJ1 := Lib.hid (show j + 1 ≤ t by clear k1; omega)
                      clear hg hg' hP hO hOl hB
                      go_wp2
                      go_quiet (fail)
                      go_wp2
                      go_region_held_law (fun w' => w'.cell? ⟨b, o + j, none⟩ = some (.int .i64 x) ∧ w'.cell? ⟨b', o' + j, none⟩ = some (.int .i64 y)) (first | (have hB9 := grown_own (w := w4) (by (repeat (first | exact Bel.refl _ | assumption | refine Bel.drew ?_ | refine Bel.drewN ?_ _ | refine Bel.alloc ?_ _ | refine Bel.setCell ?_ (by first | omega | (simp; done) | (simp; omega) | (simp at *; omega)) _ | refine Bel.trans ?_ (by assumption)))) HOL.out (Nat.le_refl _) hgr5; exact Hel2.out _ hB9) | exact Hel2.out _ (by (repeat (first | exact Bel.refl _ | assumption | refine Bel.drew ?_ | refine Bel.drewN ?_ _ | refine Bel.alloc ?_ _ | refine Bel.setCell ?_ (by first | omega | (simp; done) | (simp; omega) | (simp at *; omega)) _ | refine Bel.trans ?_ (by assumption)))))
                        (first | (refine step_append_lies _ rfl (.tmp 101) (.tmp 111) 28 rfl w4.heap.size 3 i1 _ 1 8 Try.underlying28 hj hy0 hy1 hy2 rfl (by decide) u13 j _ (by rfl) ((ownsRow_bel HOL.out (by (repeat (first | exact Bel.refl _ | assumption | refine Bel.drew ?_ | refine Bel.drewN ?_ _ | refine Bel.alloc ?_ _ | refine Bel.setCell ?_ (by first | omega | (simp; done) | (simp; omega) | (simp at *; omega)) _ | refine Bel.trans ?_ (by assumption))))).alloc _) ⟨wr.heap.size, 0, none⟩ 1 1 [.int .i64 (x + y)] (by rfl) rfl (new1 _ _ _ _ (by simp)) (one1 _) (by omega) hX1.out hX2.out (by simp <;> omega) _ rfl ?_; intro g5 cap5 w5 hown5 hgr5 hat5 hlt5))
                      have hB5 := Lib.hid (grown_own (w := w4) (by (repeat (first | exact Bel.refl _ | assumption | refine Bel.drew ?_ | refine Bel.drewN ?_ _ | refine Bel.alloc ?_ _ | refine Bel.setCell ?_ (by first | omega | (simp; done) | (simp; omega) | (simp at *; omega)) _ | refine Bel.trans ?_ (by assumption)))) HOL.out (Nat.le_refl _) hgr5)
                      have HO5 := Lib.hid (Own1.snoc (l := P) (by rw [HLX.out]; exact hown5))
                      clear hown5 hgr5 hat5 hlt5 k1
                      go_wp2
                      go_roundw
                      case rel => exact ⟨j + 1, HJ1.out, by go_num, hB5.out, by rw [HSX.out]; exact HO5.out, HBX.out⟩
                      case measure => simp [intOf]; omega
                · obtain rfl : j = t := by omega
                  have hsum := sum_bal HV1.out HV2.out (fun i a b hi => hB i a b (by rw [← Ht.out]; exact hi))
                  rw [Ht.out] at hsum
                  obtain ⟨s1, s2⟩ := hsum
                  have HS1 := Lib.hid s1; have HS2 := Lib.hid s2
                  have HLX := Lib.hid (addTo_len ts ks j)
                  obtain ⟨P, hP⟩ : ∃ P, P = addTo ts ks j := ⟨_, rfl⟩
                  rw [← hP] at hO HLX HS1 HS2
                  obtain ⟨A9, n9, c9, rfl, hn9, hI9, hl9, hm9⟩ := hO.formC
                  have HN9 := Lib.hid hn9.symm
                  have HI9 := Lib.hid hI9
                  have HL9 := Lib.hid hl9; have HM9 := Lib.hid hm9
                  clear hn9 hI9 hO hB hl9 hm9 s1 s2 hP c0 c1
                  have hB9 := hB4.trans hbr
                  obtain ⟨c0, c1⟩ := Held.out _ hB9
                  go_wp2_with fail
                  refine (balances_any A B n c m d X Y A9 n9 c9 P _ (hS.bel (hb0.trans hB9)) HI9.out HN9.out HL9.out HM9.out).mono ?_
                  rintro e w6 ⟨rfl, hb6⟩
                  rw [HS1.out, HS2.out]
                  go_wp2_with fail
                  refine (known_any _).mono ?_
                  rintro e w9 ⟨rfl, hb9⟩
                  go_wp2
                  go_ret
                  exact ⟨rfl, by (repeat (first | exact Bel.refl _ | assumption | refine Bel.drew ?_ | refine Bel.drewN ?_ _ | refine Bel.alloc ?_ _ | refine Bel.setCell ?_ (by first | omega | (simp; done) | (simp; omega) | (simp at *; omega)) _ | refine Bel.trans ?_ (by assumption)))⟩
            · have hne : ((t : Int) != (k : Int)) = true := by simp; omega
              go_wp2_with fail
              refine (known_any _).mono ?_
              rintro e w9 ⟨rfl, hb9⟩
              go_wp2
              go_ret
              exact ⟨rfl, by (repeat (first | exact Bel.refl _ | assumption | refine Bel.drew ?_ | refine Bel.drewN ?_ _ | refine Bel.alloc ?_ _ | refine Bel.setCell ?_ (by first | omega | (simp; done) | (simp; omega) | (simp at *; omega)) _ | refine Bel.trans ?_ (by assumption)))⟩

set_option maxRecDepth 100000 in
set_option maxHeartbeats 1000000 in
theorem walk (A : Option Addr) (n c : Nat) (Zx : List RowZ) (B : Option Addr) (m d : Nat) (Zy : List RowZ) (T : Option Addr) (t u : Nat) (ts : List Int) (K : Option Addr) (k v : Nat) (ks : List Int) (w : World) (hx : ArgT w A n c Zx) (hy : ArgT w B m d Zy) (ht : ArgI w T t u ts) (hk : ArgI w K k v ks) :
    Calls Try.prog 4 #[.agg #[.slice A n c, .slice B m d], .slice T t u, .slice K k v] w fun e w' => e = .returned (.bool true) ∧ Bel w w' := by
  obtain ⟨x1, x2, x3⟩ := hx.els
  obtain ⟨y1, y2, y3⟩ := hy.els
  obtain ⟨f1, f2, f3⟩ := ht.els
  obtain ⟨k1, k2, k3⟩ := hk.els
  have hu9 := (reachN_le ht.reach (by omega)).1
  have hv9 := (reachN_le hk.reach (by omega)).1
  have hum := (reachN_le ht.reach (by omega)).2
  have hvm := (reachN_le hk.reach (by omega)).2
  have htu := ht.le
  have hkv := hk.le
  have Held := Lib.hid (fun w' (h : Bel (w.alloc (.cells #[.slice A n c, .slice B m d] 24)) w') => box_sl h)
  have hb0 : Bel w (w.alloc (.cells #[.slice A n c, .slice B m d] 24)) := (Bel.refl w).alloc _

  go_enter Try.func4, Try.ntmps4
  go_wp2_with fail
  refine (keepTable_any A n c Zx _ (hx.bel hb0)).mono ?_
  rintro e w1 ⟨A', n', c', rfl, hn', hb1, hr1⟩
  have HN := Lib.hid hn'; clear hn'
  obtain ⟨c0, c1⟩ := Held.out _ hb1
  go_wp2_with fail
  refine (keepTable_any B m d Zy _ (hy.bel (hb0.trans hb1))).mono ?_
  rintro e w2 ⟨B', m', d', rfl, hm', hb2, hr2⟩
  have HM := Lib.hid hm'; clear hm'
  clear c0 c1
  have hB2 := hb1.trans hb2
  obtain ⟨c0, c1⟩ := Held.out _ hB2
  go_wp2_with fail
  refine (keepInts_any T t u ts _ (ht.ints.bel (hb0.trans hB2)) ht.len ht.le ht.nil ht.reach).mono ?_
  rintro e w3 ⟨T', t', u', rfl, ht', hb3, hr3, -⟩
  have HT := Lib.hid ht'; clear ht'
  clear c0 c1
  have hB3 := hB2.trans hb3
  obtain ⟨c0, c1⟩ := Held.out _ hB3
  go_wp2_with fail
  refine (keepInts_any K k v ks _ (hk.ints.bel (hb0.trans hB3)) hk.len hk.le hk.nil hk.reach).mono ?_
  rintro e w4 ⟨K', k', v', rfl, hk', hb4, hr4, -⟩
  have HK := Lib.hid hk'; clear hk'
  clear c0 c1
  have hB4 := hB3.trans hb4
  obtain ⟨c0, c1⟩ := Held.out _ hB4
  go_wp2_with fail
  refine (inner A n c B m d _ _ T t u _ K k v _ _ ⟨x1.bel (hb0.trans hB4), y1.bel (hb0.trans hB4), x2, y2⟩ (f1.bel (hb0.trans hB4)) f2 htu hum (k1.bel (hb0.trans hB4)) k2 hkv hvm).mono ?_
  rintro e w5 ⟨rfl, hb5⟩
  clear c0 c1
  have hB5 := hB4.trans hb5
  obtain ⟨c0, c1⟩ := Held.out _ hB5
  go_wp2_with fail
  refine (keptTable_any A' A n' c' n c Zx _ ((hr1.low (Nat.zero_le _)).bel (hb2.trans (hb3.trans (hb4.trans hb5)))) (hx.bel (hb0.trans hB5)) HN.out).mono ?_
  rintro e w6 ⟨rfl, hb6⟩
  clear c0 c1
  have hB6 := hB5.trans hb6
  obtain ⟨c0, c1⟩ := Held.out _ hB6
  go_wp2_with fail
  refine (keptTable_any B' B m' d' m d Zy _ ((hr2.low (Nat.zero_le _)).bel (hb3.trans (hb4.trans (hb5.trans hb6)))) (hy.bel (hb0.trans hB6)) HM.out).mono ?_
  rintro e w7 ⟨rfl, hb7⟩
  clear c0 c1
  have hB7 := hB6.trans hb7
  obtain ⟨c0, c1⟩ := Held.out _ hB7
  go_wp2_with fail
  refine (keptInts_any T' T t' u' t u ts _ (hr3.bel (hb4.trans (hb5.trans (hb6.trans hb7)))) (ht.ints.bel (hb0.trans hB7)) HT.out.symm ht.len ht.le ht.nil hu9).mono ?_
  rintro e w8 ⟨rfl, hb8⟩
  clear c0 c1
  have hB8 := hB7.trans hb8
  obtain ⟨c0, c1⟩ := Held.out _ hB8
  go_wp2_with fail
  refine (keptInts_any K' K k' v' k v ks _ (hr4.bel (hb5.trans (hb6.trans (hb7.trans hb8)))) (hk.ints.bel (hb0.trans hB8)) HK.out.symm hk.len hk.le hk.nil hv9).mono ?_
  rintro e w9 ⟨rfl, hb9⟩
  clear c0 c1
  go_wp2
  go_ret
  exact ⟨rfl, hb0.trans (hB8.trans hb9)⟩

set_option maxRecDepth 100000 in
theorem lifted (os : Os) (started : os.Started) (H : Type) (enc : TypeId × Value → H) :
    ReturnsInHanded {} Try.checked os 4 .any (Rows.strikeBalancesSpec.pre6 enc Try.prog Try.f4 Rows.strikeBalancesRow.domain false) (Rows.strikeBalancesSpec.post enc Try.prog Try.f4 false true false false) := by
  refine returnsInHanded_of_change_sized (C := Try.checked) own started (by kernel_rfl) Try.func4
    (ChangeSpec.witness6 (enc := enc) (C := Try.checked) false ⟨#[], #[.agg #[.slice none 0 0, .slice none 0 0], .slice none 0 0, .slice none 0 0], []⟩ 8 (by kernel_rfl) (by kernel_rfl) (by kernel_rfl) (by kernel_rfl)) ?_
  intro W base args ds gs before hval0 hW hcnd hsz0 _
  have hval : ∀ (j : Nat) t v, Try.f4.params[j]? = some t → args[j]? = some v → Value.okWide Try.prog W .any base t v := hval0
  have hsz : (DataW.weightsEach Try.prog (Try.f4.params.toList ++ Rows.strikeBalancesSpec.plain.varTypes Try.prog) (ds ++ gs)).all (· ≤ reachBytes) = true := hsz0
  have hW' := hW
  obtain ⟨p, q, hA0, hV, rfl, hfz, hnd⟩ := hW
  have hA : DataW.TrodAll enc Try.prog W 0 (fun _ => true) true Try.f4.params.toList args.toList ds p := hA0
  rw [Try.params4] at hA hval hsz
  obtain ⟨v0, vs0, d0, ds0, p0, q0, hargs, rfl, rfl, h0, r0⟩ := trodAll_cons hA
  obtain ⟨v1, vs1, d1, ds1, p1, q1, rfl, rfl, rfl, h1, r1⟩ := trodAll_cons r0
  obtain ⟨v2, vs2, d2, ds2, p2, q2, rfl, rfl, rfl, h2, r2⟩ := trodAll_cons r1
  obtain ⟨rfl, rfl, rfl⟩ := trodAll_nil r2
  obtain rfl : args = #[v0, v1, v2] := by cases args; simp_all
  obtain ⟨rfl, rfl⟩ := trodVars_none hV
  have k0 := h0
  have lt0 : ∀ x ∈ p0, x.block < W.heap.size := by obtain ⟨m, hm⟩ := k0; exact DataW.trod_lt m _ _ _ hm
  have k1 := h1
  have lt1 : ∀ x ∈ p1, x.block < W.heap.size := by obtain ⟨m, hm⟩ := k1; exact DataW.trod_lt m _ _ _ hm
  have k2 := h2
  have lt2 : ∀ x ∈ p2, x.block < W.heap.size := by obtain ⟨m, hm⟩ := k2; exact DataW.trod_lt m _ _ _ hm
  have hr0 : ∀ k ∈ d0.weights Try.prog 24, k ≤ reachN := fun k hk => by rw [← reach_eq]; simpa using List.all_eq_true.1 hsz k (DataW.weights_mem_each (j := 0) rfl rfl k hk)
  obtain ⟨A0, n0, c0, zx0, B0, m0, e0, zy0, rfl, a0, b0⟩ := open_strike (hval 0 24 v0 rfl rfl) h0 hr0
  have hr1 : ∀ k ∈ d1.weights Try.prog 28, k ≤ reachN := fun k hk => by rw [← reach_eq]; simpa using List.all_eq_true.1 hsz k (DataW.weights_mem_each (j := 1) rfl rfl k hk)
  obtain ⟨A1, n1, c1, zs1, rfl, a1⟩ := open_argI (hval 1 28 v1 rfl rfl) h1 hr1
  have hr2 : ∀ k ∈ d2.weights Try.prog 28, k ≤ reachN := fun k hk => by rw [← reach_eq]; simpa using List.all_eq_true.1 hsz k (DataW.weights_mem_each (j := 2) rfl rfl k hk)
  obtain ⟨A2, n2, c2, zs2, rfl, a2⟩ := open_argI (hval 2 28 v2 rfl rfl) h2 hr2
  clear hA0 hval0
  refine (walk A0 n0 c0 zx0 B0 m0 e0 zy0 A1 n1 c1 zs1 A2 n2 c2 zs2 W a0 b0 a1 a2).mono fun e W' ⟨he, bel⟩ => ?_
  subst he
  exact ⟨_, rfl, _, _, _, [], _, [], hW', trodAll_mk1 (shut_bool Try.underlying4 _), trodAll_cons_mk (Below.trod laidOut (by kernel_rfl) (of_decide_eq_true (by kernel_rfl)) k0 bel lt0) (trodAll_cons_mk (Below.trod laidOut (by kernel_rfl) (of_decide_eq_true (by kernel_rfl)) k1 bel lt1) (trodAll_cons_mk (Below.trod laidOut (by kernel_rfl) (of_decide_eq_true (by kernel_rfl)) k2 bel lt2) (trodAll_mk0))), rfl, Below.frame bel _, fun h => by cases h⟩

theorem over : Rows.strikeBalancesRow.holds Try.pinned (OpenSpec.ofChange Rows.strikeBalancesSpec) :=
  OpenClaim.holds_of_wide 4 Try.f4 rfl rfl rfl rfl rfl rfl rfl ⟨rfl, rfl, rfl, rfl, rfl⟩ rfl rfl rfl rfl rfl (by kernel_rfl) Try.func4 (by kernel_rfl)
    (of_decide_eq_true (by kernel_rfl)) (by unfold Func.isWrapper; rw [if_neg (of_decide_eq_false (by kernel_rfl))]; exact ⟨rfl, rfl⟩)
    (fun os started H enc _ => lifted os started H enc)

/-- The statement. -/
theorem proved : Rows.StrikeBalancesSaid := over
end Go.Proofs.Ytfjegdejfccgaaa.strikeBalances
