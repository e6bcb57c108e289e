/-
  The statement KneadPowersSaid: for all words, times and numbers of lumps Power answers as the document says, and folding by it does what folding by the word does so often; the word stays as it was in its spare cells, too, and the known answers come out. No condition.
-/
import Derived.Test.YthjjpmcefiddmaaW
import Derived.Test.YthjjpmcefiddmaaM
import Derived.Test.YthjjpmcefiddmaaP
namespace Go.Proofs.Ythjjpmcefiddmaa.kneadPowers
open Go.ChangeShapes Go.WideShapes Go.ChangeAt Go.RowKit Go.Joins

attribute [local go_sem] Oper.semAt_some

theorem rep_word {ws : List Int} (h : WordOK ws) : ∀ t, WordOK (repL ws t)
  | 0 => fun v hv => by simp [repL] at hv
  | t + 1 => by rw [repL_snoc]; exact (rep_word h t).app h
set_option maxRecDepth 100000 in
set_option maxHeartbeats 4000000 in
theorem copy_step (g0 : Nat) (l : List Int) (A : Option Addr) (n : Nat) (w : World) (hR : Ints w A l) (hn : l.length = n) (hpos : 0 < n) (hg : g0 = w.heap.size) :
    ∃ b1 b2 : Nat, A = some ⟨b1, b2, none⟩ ∧ (∀ w', Bel w w' → ∀ j u, (l.map fun x => Value.int .i64 x)[j]? = some u → w'.cell? ((⟨b1, b2, none⟩ : Addr).add j) = some u) ∧ (w.alloc (.cells #[] 3)).ownsRow g0 3 1 (.slice (some ⟨g0, 0, none⟩) 0 0) 0 [] := by
  subst hg
  obtain ⟨b1, b2, rfl, hbl1, hnw⟩ := hR.news (by intro e; rw [e] at hn; simp at hn; omega)
  refine ⟨b1, b2, rfl, fun w' hb' j u hj => ?_, World.ownsRow_lit w #[] 0 (Nat.le_refl _) (by unfold maxLen; omega) rfl⟩
  have := hnw j u hj
  rw [Go.Addr.add_mid] at this ⊢
  rw [hb'.use.1 _ _ hbl1]
  exact this
set_option maxRecDepth 100000 in
set_option maxHeartbeats 8000000 in
theorem inner (A : Option Addr) (n c : Nat) (ws : List Int) (t lumps : Int) (w : World) (hR : Ints w A ws) (hn : ws.length = n) (_hc : n ≤ c) (hmx : n ≤ maxLen) :
    Calls Try.prog 38 #[.slice A n c, .int .i64 t, .int .i64 lumps] w fun e w' => e = .returned (.bool true) ∧ Bel w w' := by
  have Hn := Lib.hid hn
  by_cases ha : 100 < n
  · have HL := Lib.hid (decide_eq_true ha)
    clear ha hn
    go_enter Try.func38, Try.ntmps38
    go_wp2_with fail
    refine (long_any A n c _).mono ?_
    rintro e w1 ⟨rfl, rfl⟩
    rw [HL.out]
    go_wp2_with fail
    refine (known_any _).mono ?_
    rintro e w9 ⟨rfl, hb9⟩
    go_wp2
    go_ret
    exact ⟨rfl, hb9⟩
  · have HL := Lib.hid (decide_eq_false ha)
    clear ha
    by_cases hX : eT ws t = 0
    · obtain ⟨hE, k, rfl, hk40, hL⟩ := eT_zero hX
      rw [hn] at hL
      have HE := Lib.hid hE
      have HW := Lib.hid (eW_zero hE).2
      have HLn := Lib.hid hL
      have HRL := Lib.hid (show (repL ws k).length = n * k by rw [repL_len, hn])
      have HRW := Lib.hid (rep_word HW.out k)
      have HRE := Lib.hid (show eW (repL ws k) = 0 from eW_ok (by rw [HRL.out]; exact hL) HRW.out)
      have hmL : n * k ≤ maxLen := by unfold maxLen; omega
      have hki40 : (k : Int) ≤ 40 := by omega
      obtain ⟨N, hN⟩ : ∃ N, N = n * k := ⟨_, rfl⟩
      rw [← hN] at hmL HLn HRL
      have HN := Lib.hid hN
      clear hX hE hL hn hN
      go_enter Try.func38, Try.ntmps38
      go_wp2_with fail
      refine (long_any A n c _).mono ?_
      rintro e w1 ⟨rfl, hw⟩
      subst hw
      rw [HL.out]
      go_wp2_with fail
      refine (rpower_ok A n c k ws _ hR Hn.out HE.out hk40 (by rw [← HN.out]; exact HLn.out)).mono ?_
      rintro e w2 ⟨A2, c2, rfl, hb2, hI2⟩
      rw [← HN.out]
      go_wp2_with fail
      refine (power_ok A n c k ws _ (hR.bel hb2) Hn.out HE.out hk40 (by rw [← HN.out]; exact HLn.out)).mono ?_
      rintro e w3 ⟨A3, c3, rfl, hb3, hI3⟩
      rw [← HN.out]
      have hb13 := hb2.trans hb3
      go_wp2_with fail
      refine (sameInts_any A3 A2 N c3 N c2 _ _ hI3 (hI2.bel hb3) HRL.out HRL.out hmL).mono ?_
      rintro e w4 ⟨rfl, hb4⟩
      have hb14 := hb13.trans hb4
      by_cases hD : eD lumps = 0
      · obtain ⟨h, h1, h16, hLh⟩ := eD_zero hD
        have HLq := Lib.hid hLh
        have hl2 : ¬ lumps < 2 := by omega
        have hl32 : ¬ lumps > 32 := by omega
        have hl0 : lumps % 2 = 0 := by omega
        have hl1 : (lumps % 2 != 0) = false := by rw [hl0]; rfl
        have HDW := Lib.hid (show eDW ((2 * h : Nat) : Int) ws = 0 by unfold eDW; rw [if_pos (eD_half h1 h16)]; exact HE.out)
        have HDR := Lib.hid (show eDW ((2 * h : Nat) : Int) (repL ws k) = 0 by unfold eDW; rw [if_pos (eD_half h1 h16)]; exact HRE.out)
        have HLL := Lib.hid (show lumps = 2 * (h : Int) by omega)
        clear hD hLh hl0 hI2
        go_wp2_with fail
        rw [HLq.out]
        refine (numbers_any (2 * h) _ (by omega)).mono ?_
        rintro e w5 ⟨v5, rfl, hO5, hb5⟩
        rw [← HLq.out]
        obtain ⟨A5, n5, c5, rfl, hn5, hI5⟩ := hO5.form
        rw [numL_len] at hn5
        subst hn5
        have hb15 := hb14.trans hb5
        have hb35 := hb4.trans hb5
        clear hO5
        go_wp2
        go_loopw [11, 12] (fun v i wr => ∃ q : Nat, q ≤ k ∧ i = .int .i64 q ∧ Bel w5 wr ∧ ∃ A' c', v = .slice A' (2 * h) c' ∧ Ints wr A' (foldL h (repL ws q) (numL (2 * h)))) (fun _ i _ => k - (intOf i).toNat)
        case atStart => exact ⟨0, Nat.zero_le _, rfl, Bel.refl _, A5, c5, rfl, by rw [show repL ws 0 = [] from rfl, foldL_nil (numL_len _)]; exact hI5⟩
        case round =>
          clear hI5
          obtain ⟨q, hq, rfl, hb, A', c', rfl, hI⟩ := hrel
          by_cases hlt : q < k
          · have hqi : (q : Int) < (k : Int) := by omega
            obtain ⟨i0, hi, hz0, hz1, hz2⟩ := info_parts info1I
            have HF := Lib.hid (show byF h (unW h ws) (foldL h (repL ws q) (numL (2 * h))) = foldL h (repL ws (q + 1)) (numL (2 * h)) by rw [repL_snoc, foldL_app]; rfl)
            have hLL := HLL.out
            have hlenq : (2 * (h : Int) != lumps) = false := by rw [hLL]; simp
            go_wp2_with fail
            refine (fold_ok h A' c' _ A n c ws _ hI (foldL_len _ _ _) (hR.bel (hb15.trans hb)) Hn.out HDW.out).mono ?_
            rintro e w6 ⟨A6, c6, rfl, hc6, hb6, hI6⟩
            rw [HF.out] at hI6
            obtain ⟨b1, b2, hA6, hnews, hlit⟩ := copy_step w6.heap.size _ A6 (2 * h) w6 hI6 (foldL_len _ _ _) (by omega) rfl
            subst hA6
            obtain ⟨l6, hl6⟩ : ∃ l6, l6 = foldL h (repL ws (q + 1)) (numL (2 * h)) := ⟨_, rfl⟩
            have hl6n : l6.length = 2 * h := by rw [hl6]; exact foldL_len _ _ _
            rw [← hl6] at hnews hI6
            have HL6 := Lib.hid hl6
            have Hnews := Lib.hid hnews; have Hlit := Lib.hid hlit; have HL6N := Lib.hid hl6n
            have hX3 := Lib.hid (show 0 + 2 * h ≤ maxLen by unfold maxLen; omega)
            have hX4 := Lib.hid (show (0 + 2 * h) * 8 ≤ 140737488355328 by omega)
            have hpos : 0 < 2 * h := by omega
            clear hnews hlit hl6n hl6 hI hI6 hLL
            go_wp2_with (at_builtin; go_loud (refine wpList_append_lies _ rfl (.tmp 78) (.tmp 79) 22 rfl w6.heap.size 3 i0 _ 1 8 Try.underlying22 hi hz0 hz1 hz2 rfl (by decide) _ 0 [] (by rfl) Hlit.out ⟨b1, b2, none⟩ (2 * h) c6 (l6.map fun x => .int .i64 x) (by rfl) (by rw [List.length_map, HL6N.out, Nat.mul_one]) (Hnews.out _ (by (repeat (first | exact Bel.refl _ | assumption | refine Bel.drew ?_ | refine Bel.drewN ?_ _ | refine Bel.alloc ?_ _ | refine Bel.setCell ?_ (by first | omega | (simp; done) | (simp; omega) | (simp at *; omega)) _ | refine Bel.trans ?_ (by assumption))))) (one_map _) hpos hX3.out hX4.out (by simp) _ rfl ?_); intro g7 cap7 w7; rw [show 0 + 2 * h = 2 * h from Nat.zero_add _, List.nil_append]; intro hown7 hgr7 hat7 hlt7)
            have hb7 := grown_own (w := w6) ((Bel.refl w6).alloc _) Hlit.out (Nat.le_refl _) hgr7
            have hI7 := ints_row hown7
            clear hown7 hgr7 hat7 hlt7
            go_roundw
            case rel => exact ⟨q + 1, by omega, by go_num, (hb.trans hb6).trans hb7, _, _, rfl, by rw [← HL6.out]; exact hI7⟩
            case measure => simp [intOf]; omega
          · obtain rfl : q = k := by omega
            have hb1r := hb15.trans hb
            go_wp2_with fail
            rw [HLq.out]
            refine (numbers_any (2 * h) _ (by omega)).mono ?_
            rintro e w6 ⟨v6, rfl, hO6, hb6⟩
            rw [← HLq.out]
            obtain ⟨A6, n6, c6, rfl, hn6, hI6⟩ := hO6.form
            rw [numL_len] at hn6
            subst hn6
            clear hO6
            go_wp2_with fail
            refine (fold_ok h A6 c6 _ A3 N c3 (repL ws q) _ hI6 (numL_len _) (hI3.bel ((hb35.trans hb).trans hb6)) HRL.out HDR.out).mono ?_
            rintro e w7 ⟨A7, c7, rfl, hc7, hb7, hI7⟩
            go_wp2_with fail
            refine (sameInts_any A7 A' (2 * h) c7 (2 * h) c' (foldL h (repL ws q) (numL (2 * h))) _ hI7 (hI.bel (hb6.trans hb7)) (foldL_len _ _ _) (foldL_len _ _ _) (by unfold maxLen; omega)).mono ?_
            rintro e w8 ⟨rfl, hb8⟩
            go_wp2_with fail
            refine (known_any _).mono ?_
            rintro e w9 ⟨rfl, hb9⟩
            go_wp2
            go_ret
            exact ⟨rfl, (((hb1r.trans hb6).trans hb7).trans hb8).trans hb9⟩
      · have h0 : lumps < 2 ∨ (2 ≤ lumps ∧ lumps > 32) ∨ (2 ≤ lumps ∧ lumps ≤ 32 ∧ lumps % 2 ≠ 0) := by
          have : ¬ (2 ≤ lumps ∧ lumps ≤ 32 ∧ lumps % 2 = 0) := fun ⟨a, b, c⟩ => hD (by unfold eD okN; rw [if_pos (by simp; omega)])
          omega
        clear hD hI2 hI3
        rcases h0 with q1 | ⟨q1, q2⟩ | ⟨q1, q2, q3⟩
        · go_wp2_with fail
          refine (known_any _).mono ?_
          rintro e w9 ⟨rfl, hb9⟩
          go_wp2
          go_ret
          exact ⟨rfl, hb14.trans hb9⟩
        · go_wp2_with fail
          refine (known_any _).mono ?_
          rintro e w9 ⟨rfl, hb9⟩
          go_wp2
          go_ret
          exact ⟨rfl, hb14.trans hb9⟩
        · have q4 : (lumps % 2 != 0) = true := by simpa using q3
          clear q3
          go_wp2_with fail
          refine (known_any _).mono ?_
          rintro e w9 ⟨rfl, hb9⟩
          go_wp2
          go_ret
          exact ⟨rfl, hb14.trans hb9⟩
    · have HN := Lib.hid hX
      obtain ⟨y, hy⟩ : ∃ y, y = eT ws t := ⟨_, rfl⟩
      have HY := Lib.hid hy
      have hy0 : (y != 0) = true := by rw [hy]; simpa using hX
      have hyy : (y != y) = false := by simp
      clear hX hy hn
      go_enter Try.func38, Try.ntmps38
      go_wp2_with fail
      refine (long_any A n c _).mono ?_
      rintro e w1 ⟨rfl, hw⟩
      subst hw
      rw [HL.out]
      go_wp2_with fail
      refine (rpower_err A n c ws t _ hR Hn.out hmx HN.out).mono ?_
      rintro e w2 ⟨rfl, hb2⟩
      rw [← HY.out]
      go_wp2_with fail
      refine (power_err A n c ws t _ (hR.bel hb2) Hn.out hmx HN.out).mono ?_
      rintro e w3 ⟨rfl, hb3⟩
      rw [← HY.out]
      go_wp2_with fail
      refine (sameInts_any none none 0 0 0 0 [] _ (.inl rfl) (.inl rfl) rfl rfl (Nat.zero_le _)).mono ?_
      rintro e w4 ⟨rfl, hb4⟩
      go_wp2_with fail
      refine (known_any _).mono ?_
      rintro e w5 ⟨rfl, hb5⟩
      go_wp2
      go_ret
      exact ⟨rfl, ((hb2.trans hb3).trans hb4).trans hb5⟩

set_option maxRecDepth 100000 in
set_option maxHeartbeats 1000000 in
theorem walk (A0 : Option Addr) (n0 c0 : Nat) (zs0 : List Int) (x1 : Int) (x2 : Int) (w : World) (hx0 : ArgI w A0 n0 c0 zs0) :
    Calls Try.prog 14 #[.slice A0 n0 c0, .int .i64 x1, .int .i64 x2] w fun e w' => e = .returned (.bool true) ∧ Bel w w' := by
  obtain ⟨y0, z0, m0⟩ := hx0.els
  go_enter Try.func14, Try.ntmps14
  go_wp2_with fail
  refine (keepInts_any A0 n0 c0 zs0 _ (hx0.ints.bel (Bel.refl w)) hx0.len hx0.le hx0.nil hx0.reach).mono ?_
  rintro e k0 ⟨B0, q0, d0, rfl, hq0, hk0, hI0, hlo0⟩
  have HQ0 := Lib.hid hq0; clear hq0 hlo0
  have hc0 : Bel w k0 := (Bel.refl w).trans hk0
  go_wp2_with fail
  refine (inner A0 n0 c0 _ x1 x2 _  (y0.bel hc0) z0 hx0.le m0).mono ?_
  rintro e w4 ⟨rfl, hb4⟩
  have hw4 : Bel w w4 := hc0.trans hb4
  go_wp2_with fail
  refine (keptInts_any B0 A0 q0 d0 n0 c0 zs0 _ (hI0.bel hb4) (hx0.ints.bel hw4) HQ0.out.symm hx0.len hx0.le hx0.nil (reachN_le hx0.reach (by omega)).1).mono ?_
  rintro e u0 ⟨rfl, hu0⟩
  have hv0 := hw4.trans hu0
  go_wp2
  go_ret
  exact ⟨rfl, hv0⟩

set_option maxRecDepth 100000 in
theorem lifted (os : Os) (started : os.Started) (H : Type) (enc : TypeId × Value → H) :
    ReturnsInHanded {} Try.checked os 14 .any (Rows.kneadPowersSpec.pre6 enc Try.prog Try.f14 Rows.kneadPowersRow.domain false) (Rows.kneadPowersSpec.post enc Try.prog Try.f14 false true false false) := by
  refine returnsInHanded_of_change_sized (C := Try.checked) own started (by kernel_rfl) Try.func14
    (ChangeSpec.witness6 (enc := enc) (C := Try.checked) false ⟨#[], #[.slice none 0 0, .int .i64 0, .int .i64 0], []⟩ 8 (by kernel_rfl) (by kernel_rfl) (by kernel_rfl) (by kernel_rfl)) ?_
  intro W base args ds gs before hval0 hW hcnd hsz0 _
  have hval : ∀ (j : Nat) t v, Try.f14.params[j]? = some t → args[j]? = some v → Value.okWide Try.prog W .any base t v := hval0
  have hsz : (DataW.weightsEach Try.prog (Try.f14.params.toList ++ Rows.kneadPowersSpec.plain.varTypes Try.prog) (ds ++ gs)).all (· ≤ reachBytes) = true := hsz0
  have hW' := hW
  obtain ⟨p, q, hA0, hV, rfl, hfz, hnd⟩ := hW
  have hA : DataW.TrodAll enc Try.prog W 0 (fun _ => true) true Try.f14.params.toList args.toList ds p := hA0
  rw [Try.params14] at hA hval hsz
  obtain ⟨v0, vs0, d0, ds0, p0, q0, hargs, rfl, rfl, h0, r0⟩ := trodAll_cons hA
  obtain ⟨v1, vs1, d1, ds1, p1, q1, rfl, rfl, rfl, h1, r1⟩ := trodAll_cons r0
  obtain ⟨v2, vs2, d2, ds2, p2, q2, rfl, rfl, rfl, h2, r2⟩ := trodAll_cons r1
  obtain ⟨rfl, rfl, rfl⟩ := trodAll_nil r2
  obtain rfl : args = #[v0, v1, v2] := by cases args; simp_all
  obtain ⟨rfl, rfl⟩ := trodVars_none hV
  have k0 := h0
  have lt0 : ∀ x ∈ p0, x.block < W.heap.size := by obtain ⟨m, hm⟩ := k0; exact DataW.trod_lt m _ _ _ hm
  have k1 := h1
  have lt1 : ∀ x ∈ p1, x.block < W.heap.size := by obtain ⟨m, hm⟩ := k1; exact DataW.trod_lt m _ _ _ hm
  have k2 := h2
  have lt2 : ∀ x ∈ p2, x.block < W.heap.size := by obtain ⟨m, hm⟩ := k2; exact DataW.trod_lt m _ _ _ hm
  have hr0 : ∀ k ∈ d0.weights Try.prog 22, k ≤ reachN := fun k hk => by rw [← reach_eq]; simpa using List.all_eq_true.1 hsz k (DataW.weights_mem_each (j := 0) rfl rfl k hk)
  obtain ⟨A0, n0, c0, zs0, rfl, a0⟩ := open_argI (hval 0 22 v0 rfl rfl) h0 hr0
  obtain ⟨x1, rfl, rfl, rfl, w1⟩ := open_int Try.underlying3 (hval 1 3 v1 rfl rfl) h1
  obtain ⟨x2, rfl, rfl, rfl, w2⟩ := open_int Try.underlying3 (hval 2 3 v2 rfl rfl) h2
  clear hA0 hval0
  refine (walk A0 n0 c0 zs0 x1 x2 W a0).mono fun e W' ⟨he, bel⟩ => ?_
  subst he
  exact ⟨_, rfl, _, _, _, [], _, [], hW', trodAll_mk1 (shut_bool Try.underlying4 _), trodAll_cons_mk (Below.trod laidOut (by kernel_rfl) (of_decide_eq_true (by kernel_rfl)) k0 bel lt0) (trodAll_cons_mk (shut_int Try.underlying3 w1) (trodAll_cons_mk (shut_int Try.underlying3 w2) (trodAll_mk0))), rfl, Below.frame bel _, fun h => by cases h⟩

theorem over : Rows.kneadPowersRow.holds Try.pinned (OpenSpec.ofChange Rows.kneadPowersSpec) :=
  OpenClaim.holds_of_wide 14 Try.f14 rfl rfl rfl rfl rfl rfl rfl ⟨rfl, rfl, rfl, rfl, rfl⟩ rfl rfl rfl rfl rfl (by kernel_rfl) Try.func14 (by kernel_rfl)
    (of_decide_eq_true (by kernel_rfl)) (by unfold Func.isWrapper; rw [if_neg (of_decide_eq_false (by kernel_rfl))]; exact ⟨rfl, rfl⟩)
    (fun os started H enc _ => lifted os started H enc)

/-- The statement. -/
theorem proved : Rows.KneadPowersSaid := over
end Go.Proofs.Ythjjpmcefiddmaa.kneadPowers
