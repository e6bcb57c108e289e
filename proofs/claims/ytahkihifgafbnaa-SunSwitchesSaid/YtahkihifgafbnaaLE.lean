/-
  The statement SunSwitchesSaid: for all tables of numbers and all strips Switch answers as the document says; it changes the fewest upsets by at most one, and switched again the table is as it was; the tables stay as they were in their spare cells, too, and the known answers come out. No condition.
-/
import Derived.Test.YtahkihifgafbnaaYN
import Derived.Test.YtahkihifgafbnaaXC
namespace Go.Proofs.Ytahkihifgafbnaa.sunSwitches
open Go.ChangeShapes Go.WideShapes Go.ChangeAt Go.RowKit Go.Joins

theorem sw_back {T : List (List Int)} {n a b x y : Nat} (hx : x < n) (hy : y < n) : swF (ent (gridL (fun x y => swF (ent T) a b x y) n)) b a x y = ent T x y := by
  show (if (x = b ∧ y = a) ∨ (x = a ∧ y = b) then ent (gridL (fun x y => swF (ent T) a b x y) n) y x else ent (gridL (fun x y => swF (ent T) a b x y) n) x y) = _
  rw [gridL_ent hy hx, gridL_ent hx hy]
  exact swF_two (ent T) a b x y
theorem best_bd {T : List (List Int)} {n : Nat} (h : Beats n (ent T)) (h1 : 1 ≤ n) (h7 : n ≤ 7) : (bestS T n).2 ≤ 49 := by
  obtain ⟨l, ho, e⟩ := bestS_att h h1
  rw [e]
  have h2 := upsC_le T l
  rw [ho.len] at h2
  exact Nat.le_trans h2 (Nat.mul_le_mul h7 h7)
set_option maxRecDepth 100000 in
set_option maxHeartbeats 8000000 in
theorem inner (A : Option Addr) (n c : Nat) (T : List (List Int)) (x y : Int) (w : World) (hR : Tab 0 w A T) (hn : T.length = n) (hmax : n ≤ maxLen) :
    Calls Try.prog 32 #[.slice A n c, .int .i64 x, .int .i64 y] w fun e w' => e = .returned (.bool true) ∧ Bel w w' := by
  have Hn := Lib.hid hn
  go_enter Try.func32, Try.ntmps32
  go_wp2_with fail
  refine (long_any 0 A n c T _ hR Hn.out hmax).mono ?_
  rintro e w1 ⟨⟨bl, rfl⟩, hw1⟩
  subst hw1
  cases bl with
  | true =>
    go_wp2_with fail
    refine (known_any _).mono ?_
    rintro e w9 ⟨rfl, hb9⟩
    go_wp2
    go_ret
    exact ⟨rfl, hb9⟩
  | false =>
    by_cases hX : errX T x y = 0
    · obtain ⟨hz, hx, hy, hxy⟩ := errX_parts hX
      obtain ⟨⟨h1, h7⟩, hrw, -⟩ := errT_zero hz
      rw [hn] at h1 h7 hx hy hrw
      have hsq := rowsB_square hn hrw
      obtain ⟨a, rfl⟩ : ∃ a : Nat, x = (a : Int) := ⟨x.toNat, by omega⟩
      obtain ⟨b, rfl⟩ : ∃ b : Nat, y = (b : Int) := ⟨y.toNat, by omega⟩
      have ha : a < n := by omega
      have hb : b < n := by omega
      have hab : a ≠ b := fun e => hxy (by rw [e])
      have hB := beats_of hn hz
      have hS : SwR n a b T (gridL (fun x y => swF (ent T) a b x y) n) := fun x y hx hy => gridL_ent hx hy
      have hBS := swF_beats hB hab
      have hSB : Beats n (ent (gridL (fun x y => swF (ent T) a b x y) n)) := ⟨fun i k hi hk => by rw [gridL_ent hi hk]; exact hBS.one i k hi hk, fun i hi => by rw [gridL_ent hi hi]; exact hBS.self i hi, fun i k hi hk hne => by rw [gridL_ent hi hk, gridL_ent hk hi]; exact hBS.pair i k hi hk hne⟩
      have m1 := hS.best hB h1
      have m2 := hS.symm.best hSB h1
      have m3 := best_bd hB h1 h7
      have HSE := Lib.hid (gridL_err hBS h1 h7)
      have HSL := Lib.hid (gridL_len (fun x y => swF (ent T) a b x y) n)
      have HZ := Lib.hid hz; have HSQ := Lib.hid hsq
      have HBK : Hid (∀ x y, x < n → y < n → swF (ent (gridL (fun x y => swF (ent T) a b x y) n)) b a x y = ent T x y) := fun x y hx hy => sw_back hx hy
      obtain ⟨S, hSd⟩ : ∃ S, S = gridL (fun x y => swF (ent T) a b x y) n := ⟨_, rfl⟩
      rw [← hSd] at m1 m2 HSE HSL HBK
      obtain ⟨f1, hf1⟩ : ∃ f1, f1 = (bestS S n).2 := ⟨_, rfl⟩
      obtain ⟨f2, hf2⟩ : ∃ f2, f2 = (bestS T n).2 := ⟨_, rfl⟩
      rw [← hf1] at m1 m2
      rw [← hf2] at m1 m2 m3
      have HF1 := Lib.hid hf1; have HF2 := Lib.hid hf2; have HSD := Lib.hid hSd
      have k1 : (f1 : Int) ≤ (f2 : Int) + 1 := by omega
      have k2 : (f2 : Int) ≤ (f1 : Int) + 1 := by omega
      have k3 : (f1 : Int) ≤ 50 := by omega
      have k4 : (f2 : Int) ≤ 49 := by omega
      clear hX hz hrw hn hxy hB hS hBS hSB m1 m2 m3 hf1 hf2 hSd hx hy hsq
      go_wp2_with fail
      refine (rswitch_ok 0 A n c T a b _ hR Hn.out HZ.out ha hb hab).mono ?_
      rintro e w3 ⟨v3, base3, rfl, hbs3, hb3, hG3⟩
      have hO3 := hG3.gridT h7
      rw [← HSD.out] at hO3
      obtain ⟨A3, n3, c3, rfl, hn3, hT3⟩ := hO3.form
      rw [HSL.out] at hn3
      subst hn3
      have hT3' := hT3.low (lo' := 0) (Nat.zero_le _)
      clear hG3 hT3 hO3
      go_wp2_with fail
      refine (switch_ok 0 A n3 c T a b _ (hR.bel hb3) Hn.out HZ.out ha hb hab).mono ?_
      rintro e w4 ⟨v4, base4, rfl, hbs4, hb4', hG4⟩
      have hO4 := hG4.gridT h7
      rw [← HSD.out] at hO4
      obtain ⟨A4, n4, c4, rfl, hn4, hT4⟩ := hO4.form
      rw [HSL.out] at hn4
      subst hn4
      have hT4' := hT4.low (lo' := 0) (Nat.zero_le _)
      have hb4 := hb3.trans hb4'
      clear hG4 hT4 hO4
      go_wp2_with fail
      refine (sameTables_any 0 0 A4 A3 n4 c4 n4 c3 S _ hT4' (hT3'.bel hb4') HSL.out HSL.out hmax).mono ?_
      rintro e w5 ⟨rfl, hb5⟩
      go_wp2_with fail
      refine (fewest_ok 0 A4 n4 c4 S _ (hT4'.bel hb5) HSL.out HSE.out).mono ?_
      rintro e w6 ⟨rfl, hb6⟩
      rw [← HF1.out]
      have hb46 := hb5.trans hb6
      go_wp2_with fail
      refine (fewest_ok 0 A n4 c T _ (hR.bel (hb4.trans hb46)) Hn.out HZ.out).mono ?_
      rintro e w7 ⟨rfl, hb7⟩
      rw [← HF2.out]
      have hb47 := hb46.trans hb7
      go_wp2_with fail
      refine (switch_ok 0 A4 n4 c4 S b a _ (hT4'.bel hb47) HSL.out HSE.out hb ha (Ne.symm hab)).mono ?_
      rintro e w8 ⟨v8, base8, rfl, hbs8, hb8, hG8⟩
      have hO8 := hG8.square HSQ.out h7 HBK.out
      obtain ⟨A8, n8, c8, rfl, hn8, hT8⟩ := hO8.form
      rw [Hn.out] at hn8
      subst hn8
      have hT8' := hT8.low (lo' := 0) (Nat.zero_le _)
      have hb48 := hb4.trans (hb47.trans hb8)
      clear hG8 hT8 hO8
      go_wp2_with (first | (go_at_call 54; refine (sameTables_any 0 0 A8 A n8 c8 n8 c T _ hT8' (hR.bel hb48) Hn.out Hn.out hmax).mono ?_; rintro e w10 ⟨rfl, hb10⟩) | (go_at_call 36; refine (known_any _).mono ?_; rintro e w11 ⟨rfl, hb11⟩))
      go_ret
      exact ⟨rfl, (hb48.trans hb10).trans hb11⟩
    · have HX := Lib.hid hX
      obtain ⟨ev, hev⟩ : ∃ z, z = errX T x y := ⟨_, rfl⟩
      have HEV := Lib.hid hev
      have hz' : (ev != 0) = true := by rw [hev]; simpa using hX
      have hee : (ev != ev) = false := by simp
      clear hn hX hev
      go_wp2_with fail
      refine (rswitch_err 0 A n c T x y _ hR Hn.out HX.out).mono ?_
      rintro e w3 ⟨rfl, hb3⟩
      rw [← HEV.out]
      go_wp2_with fail
      refine (switch_err 0 A n c T x y _ (hR.bel hb3) Hn.out hmax HX.out).mono ?_
      rintro e w4 ⟨rfl, hb4'⟩
      rw [← HEV.out]
      have hb4 := hb3.trans hb4'
      go_wp2_with fail
      refine (sameTables_any 0 0 none none 0 0 0 0 [] _ (.inl rfl) (.inl rfl) rfl rfl (Nat.zero_le _)).mono ?_
      rintro e w8 ⟨rfl, hb8⟩
      go_wp2_with fail
      refine (known_any _).mono ?_
      rintro e w9 ⟨rfl, hb9⟩
      go_wp2
      go_ret
      exact ⟨rfl, (hb4.trans hb8).trans hb9⟩

set_option maxRecDepth 100000 in
set_option maxHeartbeats 1000000 in
theorem walk (A : Option Addr) (n c : Nat) (Z : List RowZ) (x y : Int) (w : World) (hx : ArgT w A n c Z) :
    Calls Try.prog 14 #[.slice A n c, .int .i64 x, .int .i64 y] w fun e w' => e = .returned (.bool true) ∧ Bel w w' := by
  obtain ⟨x1, x2, x3⟩ := hx.els
  go_enter Try.func14, Try.ntmps14
  go_wp2_with fail
  refine (keepTable_any A n c Z _ hx).mono ?_
  rintro e w1 ⟨A', n', c', rfl, hn', hb1, hr1⟩
  have HN := Lib.hid hn'; clear hn'
  go_wp2_with fail
  refine (inner A n c _ x y _ (x1.bel hb1) x2 x3).mono ?_
  rintro e w2 ⟨rfl, hb2⟩
  go_wp2_with fail
  refine (keptTable_any A' A n' c' n c Z _ ((hr1.low (Nat.zero_le _)).bel hb2) (hx.bel (hb1.trans hb2)) HN.out).mono ?_
  rintro e w3 ⟨rfl, hb3⟩
  go_wp2
  go_ret
  exact ⟨rfl, (hb1.trans hb2).trans hb3⟩

set_option maxRecDepth 100000 in
theorem lifted (os : Os) (started : os.Started) (H : Type) (enc : TypeId × Value → H) :
    ReturnsInHanded {} Try.checked os 14 .any (Rows.sunSwitchesSpec.pre6 enc Try.prog Try.f14 Rows.sunSwitchesRow.domain false) (Rows.sunSwitchesSpec.post enc Try.prog Try.f14 false true false false) := by
  refine returnsInHanded_of_change_sized (C := Try.checked) own started (by kernel_rfl) Try.func14
    (ChangeSpec.witness6 (enc := enc) (C := Try.checked) false ⟨#[], #[.slice none 0 0, .int .i64 0, .int .i64 0], []⟩ 8 (by kernel_rfl) (by kernel_rfl) (by kernel_rfl) (by kernel_rfl)) ?_
  intro W base args ds gs before hval0 hW hcnd hsz0 _
  have hval : ∀ (j : Nat) t v, Try.f14.params[j]? = some t → args[j]? = some v → Value.okWide Try.prog W .any base t v := hval0
  have hsz : (DataW.weightsEach Try.prog (Try.f14.params.toList ++ Rows.sunSwitchesSpec.plain.varTypes Try.prog) (ds ++ gs)).all (· ≤ reachBytes) = true := hsz0
  have hW' := hW
  obtain ⟨p, q, hA0, hV, rfl, hfz, hnd⟩ := hW
  have hA : DataW.TrodAll enc Try.prog W 0 (fun _ => true) true Try.f14.params.toList args.toList ds p := hA0
  rw [Try.params14] at hA hval hsz
  obtain ⟨v0, vs0, d0, ds0, p0, q0, hargs, rfl, rfl, h0, r0⟩ := trodAll_cons hA
  obtain ⟨v1, vs1, d1, ds1, p1, q1, rfl, rfl, rfl, h1, r1⟩ := trodAll_cons r0
  obtain ⟨v2, vs2, d2, ds2, p2, q2, rfl, rfl, rfl, h2, r2⟩ := trodAll_cons r1
  obtain ⟨rfl, rfl, rfl⟩ := trodAll_nil r2
  obtain rfl : args = #[v0, v1, v2] := by cases args; simp_all
  obtain ⟨rfl, rfl⟩ := trodVars_none hV
  have k0 := h0
  have lt0 : ∀ x ∈ p0, x.block < W.heap.size := by obtain ⟨m, hm⟩ := k0; exact DataW.trod_lt m _ _ _ hm
  have k1 := h1
  have lt1 : ∀ x ∈ p1, x.block < W.heap.size := by obtain ⟨m, hm⟩ := k1; exact DataW.trod_lt m _ _ _ hm
  have k2 := h2
  have lt2 : ∀ x ∈ p2, x.block < W.heap.size := by obtain ⟨m, hm⟩ := k2; exact DataW.trod_lt m _ _ _ hm
  have hr0 : ∀ k ∈ d0.weights Try.prog 22, k ≤ reachN := fun k hk => by rw [← reach_eq]; simpa using List.all_eq_true.1 hsz k (DataW.weights_mem_each (j := 0) rfl rfl k hk)
  obtain ⟨A0, n0, c0, zs0, rfl, a0⟩ := open_argT (hval 0 22 v0 rfl rfl) h0 hr0
  obtain ⟨x1, rfl, rfl, rfl, w1⟩ := open_int Try.underlying3 (hval 1 3 v1 rfl rfl) h1
  obtain ⟨x2, rfl, rfl, rfl, w2⟩ := open_int Try.underlying3 (hval 2 3 v2 rfl rfl) h2
  clear hA0 hval0
  refine (walk A0 n0 c0 zs0 x1 x2 W a0).mono fun e W' ⟨he, bel⟩ => ?_
  subst he
  exact ⟨_, rfl, _, _, _, [], _, [], hW', trodAll_mk1 (shut_bool Try.underlying4 _), trodAll_cons_mk (Below.trod laidOut (by kernel_rfl) (of_decide_eq_true (by kernel_rfl)) k0 bel lt0) (trodAll_cons_mk (shut_int Try.underlying3 w1) (trodAll_cons_mk (shut_int Try.underlying3 w2) (trodAll_mk0))), rfl, Below.frame bel _, fun h => by cases h⟩

theorem over : Rows.sunSwitchesRow.holds Try.pinned (OpenSpec.ofChange Rows.sunSwitchesSpec) :=
  OpenClaim.holds_of_wide 14 Try.f14 rfl rfl rfl rfl rfl rfl rfl ⟨rfl, rfl, rfl, rfl, rfl⟩ rfl rfl rfl rfl rfl (by kernel_rfl) Try.func14 (by kernel_rfl)
    (of_decide_eq_true (by kernel_rfl)) (by unfold Func.isWrapper; rw [if_neg (of_decide_eq_false (by kernel_rfl))]; exact ⟨rfl, rfl⟩)
    (fun os started H enc _ => lifted os started H enc)

/-- The statement. -/
theorem proved : Rows.SunSwitchesSaid := over
end Go.Proofs.Ytahkihifgafbnaa.sunSwitches
