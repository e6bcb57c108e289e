/-
  The statement SunWinsSaid: for all tables of numbers Validate, Wins and Rings answer as the document says, and the wins tell how many rings there are; the tables stay as they were in their spare cells, too, and the known answers come out. No condition.
-/
import Derived.Test.YtahkihifgafbnaaXA
import Derived.Test.YtahkihifgafbnaaXB
import Derived.Test.YtahkihifgafbnaaXC
namespace Go.Proofs.Ytahkihifgafbnaa.sunWins
open Go.ChangeShapes Go.WideShapes Go.ChangeAt Go.RowKit Go.Joins

theorem halves {x : Int} (h0 : 0 ≤ x) (h7 : x ≤ 7) : (0 ≤ x * (x - 1) ∧ x * (x - 1) ≤ 42) ∧ 0 ≤ x * (x - 1) / 2 ∧ x * (x - 1) / 2 ≤ 21 := by
  have : x = 0 ∨ x = 1 ∨ x = 2 ∨ x = 3 ∨ x = 4 ∨ x = 5 ∨ x = 6 ∨ x = 7 := by omega
  rcases this with rfl | rfl | rfl | rfl | rfl | rfl | rfl | rfl <;> decide
theorem start_bd {n : Nat} (h7 : n ≤ 7) : (0 ≤ (n : Int) * (n - 1) ∧ (n : Int) * (n - 1) ≤ 42) ∧ 0 ≤ (n : Int) * (n - 1) * (n - 2) ∧ (n : Int) * (n - 1) * (n - 2) ≤ 210 := by
  have : n = 0 ∨ n = 1 ∨ n = 2 ∨ n = 3 ∨ n = 4 ∨ n = 5 ∨ n = 6 ∨ n = 7 := by omega
  rcases this with rfl | rfl | rfl | rfl | rfl | rfl | rfl | rfl <;> decide

set_option maxRecDepth 100000 in
set_option maxHeartbeats 4000000 in
theorem inner (A : Option Addr) (n c : Nat) (T : List (List Int)) (w : World) (hR : Tab 0 w A T) (hn : T.length = n) (hmax : n ≤ maxLen) :
    Calls Try.prog 18 #[.slice A n c] w fun e w' => e = .returned (.bool true) ∧ Bel w w' := by
  have Hn := Lib.hid hn
  go_enter Try.func18, Try.ntmps18
  go_wp2_with fail
  refine (long_any 0 A n c T _ hR Hn.out hmax).mono ?_
  rintro e w1 ⟨⟨bl, rfl⟩, hw1⟩
  subst hw1
  cases bl with
  | true =>
    go_wp2_with fail
    refine (known_any _).mono ?_
    rintro e w9 ⟨rfl, hb9⟩
    go_wp2
    go_ret
    exact ⟨rfl, hb9⟩
  | false =>
    by_cases hz : errT T = 0
    · obtain ⟨⟨h1, h7⟩, -, -⟩ := errT_zero hz
      rw [hn] at h1 h7
      have HZ := Lib.hid hz
      have HB := Lib.hid (beats_of hn hz)
      have HW := Lib.hid (winL_sum hz)
      have HRT := Lib.hid (ringTo_tri (beats_of hn hz))
      have HWL := Lib.hid (show (winL T).length = n by rw [winL_len]; exact hn)
      have HWR := Lib.hid (show winL T = (List.range n).map (winN T n) by unfold winL; rw [hn])
      have HS := Lib.hid (remN_start hz)
      have HBD : Hid (∀ k : Nat, k ≤ n → remN T 0 - 21 * k ≤ remN T k ∧ remN T k ≤ remN T 0) := fun k hk => remN_bd hz k (by rw [hn]; exact hk)
      have HNX : Hid (∀ k : Nat, k < n → remN T (k + 1) = remN T k - winN T n k * (winN T n k - 1) / 2) := fun k hk => by
        have := remN_next hz (k := k) (by rw [hn]; exact hk)
        rw [hn] at this
        exact this
      have HALL := Lib.hid (show remN T n = ((ringTo T n n : Nat) : Int) by have := remN_all hz; rw [hn] at this; exact this)
      have HST := Lib.hid (show remN T 0 = (n : Int) * (n - 1) * (n - 2) / 6 by show leftS (ent T) T.length 0 = _; rw [hn]; rfl)
      clear hn hz
      go_wp2_with fail
      refine (rwins_ok 0 A n c T _ hR Hn.out HZ.out).mono ?_
      rintro e w2 ⟨v2, rfl, hb2, base2, hbs2, hO2⟩
      rw [HW.out] at hO2
      obtain ⟨A2, n2, c2, rfl, hn2, hI2⟩ := hO2.form
      rw [HWL.out] at hn2
      subst hn2
      clear hO2
      go_wp2_with fail
      refine (rrings_ok 0 A n2 c T _ (hR.bel hb2) Hn.out HZ.out).mono ?_
      rintro e w3 ⟨rfl, hb3⟩
      rw [HRT.out]
      have hb13 := hb2.trans hb3
      go_wp2_with fail
      refine (wins_ok 0 A n2 c T _ (hR.bel hb13) Hn.out HZ.out).mono ?_
      rintro e w4 ⟨g4, rfl, hg4, hb4, hrow4⟩
      have hb14 := hb13.trans hb4
      go_wp2_with fail
      refine (rings_ok 0 A n2 c T _ (hR.bel hb14) Hn.out HZ.out).mono ?_
      rintro e w5 ⟨rfl, hb5⟩
      have hb15 := hb14.trans hb5
      go_wp2_with fail
      refine (validate_any 0 A n2 c T _ (hR.bel hb15) Hn.out).mono ?_
      rintro e w6 ⟨rfl, hb6⟩
      rw [HZ.out]
      go_wp2_with fail
      refine (rvalidate_any 0 A n2 c T _ (hR.bel (hb15.trans hb6)) Hn.out).mono ?_
      rintro e w7 ⟨rfl, hb7⟩
      rw [HZ.out]
      have hb47 : Bel w4 w7 := (hb5.trans hb6).trans hb7
      have hI4 : Ints w4 (some ⟨g4, 0, none⟩) (winL T) := by rw [HWR.out]; exact hrow4.ints
      go_wp2_with fail
      refine (sameInts_any (some ⟨g4, 0, none⟩) A2 n2 n2 n2 c2 (winL T) _ (hI4.bel hb47) (hI2.bel ((hb3.trans hb4).trans hb47)) HWL.out HWL.out hmax).mono ?_
      rintro e w8 ⟨rfl, hb8⟩
      have hb48 := hb47.trans hb8
      have hrow8 := hrow4.bel hb48
      have hb18 := hb14.trans hb48
      obtain ⟨⟨m1, m2⟩, m3, m4⟩ := start_bd h7
      obtain ⟨rg, hrg⟩ : ∃ rg, rg = ((ringTo T n2 n2 : Nat) : Int) := ⟨_, rfl⟩
      rw [← hrg]
      have HRG := Lib.hid hrg
      clear hI2 hI4 hrow4 hrg
      go_wp2
      go_loopw [12, 13] (fun al i wr => ∃ k : Nat, k ≤ n2 ∧ i = .int .i64 k ∧ al = .int .i64 (remN T k) ∧ Bel w8 wr) (fun _ i _ => n2 - (intOf i).toNat)
      case atStart => exact ⟨0, Nat.zero_le _, rfl, by rw [HST.out], Bel.refl _⟩
      case round =>
        clear m1 m2 m3 m4
        obtain ⟨k, hk, rfl, rfl, hbk⟩ := hrel
        by_cases hlt : k < n2
        · have hcell := (hrow8.bel hbk).cells k hlt
          have hnx := HNX.out k hlt
          have hbd := HBD.out k hk
          have hst := HS.out
          have hwb := winN_bd (T := T) (n := n2) (s := k)
          obtain ⟨x, hx⟩ : ∃ x, x = winN T n2 k := ⟨_, rfl⟩
          obtain ⟨al, hal⟩ : ∃ al, al = remN T k := ⟨_, rfl⟩
          rw [← hx] at hcell hnx hwb
          rw [← hal] at hnx hbd
          rw [← hal]
          obtain ⟨⟨q1, q2⟩, q3, q4⟩ := halves (x := x) (by omega) (by omega)
          have hal1 : -200 ≤ al := by omega
          have hal2 : al ≤ 200 := by omega
          have HNK := Lib.hid hnx
          have hki : (k : Int) < (n2 : Int) := by omega
          have hk0 : (0 : Int) ≤ (k : Int) := by omega
          have hgl := (hrow8.bel hbk).lt
          clear hnx hbd hst hx hal
          go_wp2
          go_region
          go_wp2
          go_roundw
          case rel => exact ⟨k + 1, by omega, by go_num, by rw [HNK.out], by (repeat (first | exact Bel.refl _ | assumption | refine Bel.drew ?_ | refine Bel.drewN ?_ _ | refine Bel.alloc ?_ _ | refine Bel.setCell ?_ (by first | omega | (simp; done) | (simp; omega) | (simp at *; omega)) _ | refine Bel.trans ?_ (by assumption)))⟩
          case measure => simp [intOf]; omega
        · obtain rfl : n2 = k := by omega
          have HFIN := Lib.hid (show remN T n2 = rg by rw [HALL.out, HRG.out])
          rw [HFIN.out]
          go_wp2_with fail
          refine (known_any _).mono ?_
          rintro e w9 ⟨rfl, hb9⟩
          go_wp2
          go_ret
          exact ⟨rfl, (hb18.trans hbk).trans hb9⟩
    · have HZ := Lib.hid hz
      obtain ⟨ev, hev⟩ : ∃ x, x = errT T := ⟨_, rfl⟩
      have HEV := Lib.hid hev
      have hz' : (ev != 0) = true := by rw [hev]; simpa using hz
      clear hn hz hev
      go_wp2_with fail
      refine (rwins_err 0 A n c T _ hR Hn.out HZ.out).mono ?_
      rintro e w2 ⟨rfl, hb2⟩
      rw [← HEV.out]
      go_wp2_with fail
      refine (rrings_err 0 A n c T _ (hR.bel hb2) Hn.out HZ.out).mono ?_
      rintro e w3 ⟨rfl, hb3⟩
      rw [← HEV.out]
      have hb13 := hb2.trans hb3
      go_wp2_with fail
      refine (wins_err 0 A n c T _ (hR.bel hb13) Hn.out HZ.out).mono ?_
      rintro e w4 ⟨rfl, hb4⟩
      rw [← HEV.out]
      have hb14 := hb13.trans hb4
      go_wp2_with fail
      refine (rings_err 0 A n c T _ (hR.bel hb14) Hn.out HZ.out).mono ?_
      rintro e w5 ⟨rfl, hb5⟩
      rw [← HEV.out]
      have hb15 := hb14.trans hb5
      go_wp2_with fail
      refine (validate_any 0 A n c T _ (hR.bel hb15) Hn.out).mono ?_
      rintro e w6 ⟨rfl, hb6⟩
      rw [← HEV.out]
      go_wp2_with fail
      refine (rvalidate_any 0 A n c T _ (hR.bel (hb15.trans hb6)) Hn.out).mono ?_
      rintro e w7 ⟨rfl, hb7⟩
      rw [← HEV.out]
      go_wp2_with fail
      refine (sameInts_any none none 0 0 0 0 [] _ (.inl rfl) (.inl rfl) rfl rfl (Nat.zero_le _)).mono ?_
      rintro e w8 ⟨rfl, hb8⟩
      go_wp2_with fail
      refine (known_any _).mono ?_
      rintro e w9 ⟨rfl, hb9⟩
      go_wp2
      go_ret
      exact ⟨rfl, (((hb15.trans hb6).trans hb7).trans hb8).trans hb9⟩

set_option maxRecDepth 100000 in
set_option maxHeartbeats 1000000 in
theorem walk (A : Option Addr) (n c : Nat) (Z : List RowZ) (w : World) (hx : ArgT w A n c Z) :
    Calls Try.prog 3 #[.slice A n c] w fun e w' => e = .returned (.bool true) ∧ Bel w w' := by
  obtain ⟨x1, x2, x3⟩ := hx.els
  go_enter Try.func3, Try.ntmps3
  go_wp2_with fail
  refine (keepTable_any A n c Z _ hx).mono ?_
  rintro e w1 ⟨A', n', c', rfl, hn', hb1, hr1⟩
  have HN := Lib.hid hn'; clear hn'
  go_wp2_with fail
  refine (inner A n c _ _ (x1.bel hb1) x2 x3).mono ?_
  rintro e w2 ⟨rfl, hb2⟩
  go_wp2_with fail
  refine (keptTable_any A' A n' c' n c Z _ ((hr1.low (Nat.zero_le _)).bel hb2) (hx.bel (hb1.trans hb2)) HN.out).mono ?_
  rintro e w3 ⟨rfl, hb3⟩
  go_wp2
  go_ret
  exact ⟨rfl, (hb1.trans hb2).trans hb3⟩

set_option maxRecDepth 100000 in
theorem lifted (os : Os) (started : os.Started) (H : Type) (enc : TypeId × Value → H) :
    ReturnsInHanded {} Try.checked os 3 .any (Rows.sunWinsSpec.pre6 enc Try.prog Try.f3 Rows.sunWinsRow.domain false) (Rows.sunWinsSpec.post enc Try.prog Try.f3 false true false false) := by
  refine returnsInHanded_of_change_sized (C := Try.checked) own started (by kernel_rfl) Try.func3
    (ChangeSpec.witness6 (enc := enc) (C := Try.checked) false ⟨#[], #[.slice none 0 0], []⟩ 8 (by kernel_rfl) (by kernel_rfl) (by kernel_rfl) (by kernel_rfl)) ?_
  intro W base args ds gs before hval0 hW hcnd hsz0 _
  have hval : ∀ (j : Nat) t v, Try.f3.params[j]? = some t → args[j]? = some v → Value.okWide Try.prog W .any base t v := hval0
  have hsz : (DataW.weightsEach Try.prog (Try.f3.params.toList ++ Rows.sunWinsSpec.plain.varTypes Try.prog) (ds ++ gs)).all (· ≤ reachBytes) = true := hsz0
  have hW' := hW
  obtain ⟨p, q, hA0, hV, rfl, hfz, hnd⟩ := hW
  have hA : DataW.TrodAll enc Try.prog W 0 (fun _ => true) true Try.f3.params.toList args.toList ds p := hA0
  rw [Try.params3] at hA hval hsz
  obtain ⟨v0, vs0, d0, ds0, p0, q0, hargs, rfl, rfl, h0, r0⟩ := trodAll_cons hA
  obtain ⟨rfl, rfl, rfl⟩ := trodAll_nil r0
  obtain rfl : args = #[v0] := by cases args; simp_all
  obtain ⟨rfl, rfl⟩ := trodVars_none hV
  have k0 := h0
  have lt0 : ∀ x ∈ p0, x.block < W.heap.size := by obtain ⟨m, hm⟩ := k0; exact DataW.trod_lt m _ _ _ hm
  have hr0 : ∀ k ∈ d0.weights Try.prog 22, k ≤ reachN := fun k hk => by rw [← reach_eq]; simpa using List.all_eq_true.1 hsz k (DataW.weights_mem_each (j := 0) rfl rfl k hk)
  obtain ⟨A0, n0, c0, zs0, rfl, a0⟩ := open_argT (hval 0 22 v0 rfl rfl) h0 hr0
  clear hA0 hval0
  refine (walk A0 n0 c0 zs0 W a0).mono fun e W' ⟨he, bel⟩ => ?_
  subst he
  exact ⟨_, rfl, _, _, _, [], _, [], hW', trodAll_mk1 (shut_bool Try.underlying4 _), trodAll_cons_mk (Below.trod laidOut (by kernel_rfl) (of_decide_eq_true (by kernel_rfl)) k0 bel lt0) (trodAll_mk0), rfl, Below.frame bel _, fun h => by cases h⟩

theorem over : Rows.sunWinsRow.holds Try.pinned (OpenSpec.ofChange Rows.sunWinsSpec) :=
  OpenClaim.holds_of_wide 3 Try.f3 rfl rfl rfl rfl rfl rfl rfl ⟨rfl, rfl, rfl, rfl, rfl⟩ rfl rfl rfl rfl rfl (by kernel_rfl) Try.func3 (by kernel_rfl)
    (of_decide_eq_true (by kernel_rfl)) (by unfold Func.isWrapper; rw [if_neg (of_decide_eq_false (by kernel_rfl))]; exact ⟨rfl, rfl⟩)
    (fun os started H enc _ => lifted os started H enc)

/-- The statement. -/
theorem proved : Rows.SunWinsSaid := over
end Go.Proofs.Ytahkihifgafbnaa.sunWins
