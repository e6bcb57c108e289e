/-
  The statement KneadPlacesSaid: for all numbers of lumps, words and places Place answers as the document says, and the lump is there in the folded dough; the word stays as it was in its spare cells, too, and the known answers come out. No condition.
-/
import Derived.Test.YthjjpmcefiddmaaQ
import Derived.Test.YthjjpmcefiddmaaM
namespace Go.Proofs.Ythjjpmcefiddmaa.kneadPlaces
open Go.ChangeShapes Go.WideShapes Go.ChangeAt Go.RowKit Go.Joins

attribute [local go_sem] Oper.semAt_some

set_option maxRecDepth 100000 in
set_option maxHeartbeats 4000000 in
theorem inner (L : Int) (B : Option Addr) (m d : Nat) (ws : List Int) (x : Int) (w : World) (hB : Ints w B ws) (hm : ws.length = m) (_hd : m ≤ d) (hmy : m ≤ maxLen) :
    Calls Try.prog 21 #[.int .i64 L, .slice B m d, .int .i64 x] w fun e w' => e = .returned (.bool true) ∧ Bel w w' := by
  have Hm := Lib.hid hm
  by_cases hb : 100 < m
  · have HL2 := Lib.hid (decide_eq_true hb)
    clear hb hm
    go_enter Try.func21, Try.ntmps21
    go_wp2_with fail
    refine (long_any B m d _).mono ?_
    rintro e w1 ⟨rfl, rfl⟩
    rw [HL2.out]
    go_wp2_with fail
    refine (known_any _).mono ?_
    rintro e w9 ⟨rfl, hb9⟩
    go_wp2
    go_ret
    exact ⟨rfl, hb9⟩
  · have HL2 := Lib.hid (decide_eq_false hb)
    clear hb
    by_cases hE : eL L ws x = 0
    · obtain ⟨h, q, h1, h16, hL, hq, hqh, hW0, hP0⟩ := eL_zero hE
      have HW := Lib.hid (eW_zero hW0).2
      have HLq := Lib.hid hL; have HXq := Lib.hid hq; have HW0 := Lib.hid hW0
      have HP := Lib.hid (show eP ((2 * h : Nat) : Int) [(q : Int)] = 0 by rw [← hL, ← hq]; exact hP0)
      have HDW := Lib.hid (show eDW ((2 * h : Nat) : Int) ws = 0 by unfold eDW; rw [if_pos (eD_half h1 h16)]; exact hW0)
      obtain ⟨y, hy⟩ : ∃ y, y = goW h ws q := ⟨_, rfl⟩
      have HY := Lib.hid hy
      have hyl : y < 2 * h := by rw [hy]; exact goW_lt HW.out hqh
      have HG : Hid ((byF h (unW h ws) (numL (2 * h)))[y]? = some x) := by
        show _ = _
        have := fold_num h ws hyl
        rw [hy, un_goW HW.out hqh, ← hy, ← hq] at this
        exact this
      have hyy : ((y : Int) != (y : Int)) = false := by simp
      have hLL : ((2 * h : Nat) : Int) = L := hL.symm
      have hL0 : L = 2 * (h : Int) := by omega
      clear hE hL hq hP0 hW0 hm hy hLL
      go_enter Try.func21, Try.ntmps21
      go_wp2_with fail
      refine (long_any B m d _).mono ?_
      rintro e w1 ⟨rfl, hw1⟩
      subst hw1
      rw [HL2.out]
      have HL0 := Lib.hid hL0
      clear hL0
      go_wp2_with fail
      rw [HLq.out, HXq.out]
      refine (rplace_ok h B m d ws q _ h1 h16 hqh hB Hm.out HW0.out).mono ?_
      rintro e w2 ⟨rfl, hb2⟩
      rw [← HLq.out, ← HXq.out, ← HY.out]
      go_wp2_with fail
      rw [HLq.out, HXq.out]
      refine (place_ok h B m d ws q _ h1 h16 hqh (hB.bel hb2) Hm.out HW0.out HP.out).mono ?_
      rintro e w3 ⟨rfl, hb3⟩
      rw [← HLq.out, ← HXq.out, ← HY.out]
      go_wp2_with fail
      rw [HLq.out]
      refine (numbers_any (2 * h) _ (by omega)).mono ?_
      rintro e w4 ⟨v4, rfl, hO4, hb4⟩
      rw [← HLq.out]
      obtain ⟨A4, n4, c4, rfl, hn4, hI4⟩ := hO4.form
      rw [numL_len] at hn4
      subst hn4
      have hb14 := (hb2.trans hb3).trans hb4
      clear hO4
      go_wp2_with fail
      refine (fold_ok h A4 c4 (numL (2 * h)) B m d ws _ hI4 (numL_len _) (hB.bel hb14) Hm.out HDW.out).mono ?_
      rintro e w5 ⟨A5, c5, rfl, hc5, hb5, hI5⟩
      obtain ⟨b, o, u, rfl, hbl, hg, hcell⟩ := hI5.at_ (k := y) (by rw [byF_len]; exact hyl)
      rw [HG.out] at hg
      injection hg with hg
      subst hg
      have hyi : (y : Int) < 2 * (h : Int) := by omega
      have hxx : (x == x) = true := by simp
      have hL0 := HL0.out
      have hll : (2 * (h : Int) == L) = true := by rw [hL0]; simp
      clear hI5 hI4
      go_wp2_with fail
      refine (known_any _).mono ?_
      rintro e w6 ⟨rfl, hb6⟩
      go_wp2
      go_ret
      exact ⟨rfl, (hb14.trans hb5).trans hb6⟩
    · have HE := Lib.hid hE
      obtain ⟨y, hy⟩ : ∃ y, y = eL L ws x := ⟨_, rfl⟩
      have HY := Lib.hid hy
      have hy0 : (y != 0) = true := by rw [hy]; simpa using hE
      have hyy : (y != y) = false := by simp
      clear hE hy hm
      go_enter Try.func21, Try.ntmps21
      go_wp2_with fail
      refine (long_any B m d _).mono ?_
      rintro e w1 ⟨rfl, hw1⟩
      subst hw1
      rw [HL2.out]
      go_wp2_with fail
      refine (rplace_err L B m d ws x _ hB Hm.out hmy HE.out).mono ?_
      rintro e w2 ⟨rfl, hb2⟩
      rw [← HY.out]
      go_wp2_with fail
      refine (place_err L B m d ws x _ (hB.bel hb2) Hm.out hmy HE.out).mono ?_
      rintro e w3 ⟨rfl, hb3⟩
      rw [← HY.out]
      go_wp2_with fail
      refine (known_any _).mono ?_
      rintro e w4 ⟨rfl, hb4⟩
      go_wp2
      go_ret
      exact ⟨rfl, (hb2.trans hb3).trans hb4⟩

set_option maxRecDepth 100000 in
set_option maxHeartbeats 1000000 in
theorem walk (x0 : Int) (A1 : Option Addr) (n1 c1 : Nat) (zs1 : List Int) (x2 : Int) (w : World) (hx1 : ArgI w A1 n1 c1 zs1) :
    Calls Try.prog 6 #[.int .i64 x0, .slice A1 n1 c1, .int .i64 x2] w fun e w' => e = .returned (.bool true) ∧ Bel w w' := by
  obtain ⟨y1, z1, m1⟩ := hx1.els
  go_enter Try.func6, Try.ntmps6
  go_wp2_with fail
  refine (keepInts_any A1 n1 c1 zs1 _ (hx1.ints.bel (Bel.refl w)) hx1.len hx1.le hx1.nil hx1.reach).mono ?_
  rintro e k1 ⟨B1, q1, d1, rfl, hq1, hk1, hI1, hlo1⟩
  have HQ1 := Lib.hid hq1; clear hq1 hlo1
  have hc1 : Bel w k1 := (Bel.refl w).trans hk1
  go_wp2_with fail
  refine (inner x0 A1 n1 c1 _ x2 _ (y1.bel hc1) z1 hx1.le m1).mono ?_
  rintro e w4 ⟨rfl, hb4⟩
  have hw4 : Bel w w4 := hc1.trans hb4
  go_wp2_with fail
  refine (keptInts_any B1 A1 q1 d1 n1 c1 zs1 _ (hI1.bel hb4) (hx1.ints.bel hw4) HQ1.out.symm hx1.len hx1.le hx1.nil (reachN_le hx1.reach (by omega)).1).mono ?_
  rintro e u1 ⟨rfl, hu1⟩
  have hv1 := hw4.trans hu1
  go_wp2
  go_ret
  exact ⟨rfl, hv1⟩

set_option maxRecDepth 100000 in
theorem lifted (os : Os) (started : os.Started) (H : Type) (enc : TypeId × Value → H) :
    ReturnsInHanded {} Try.checked os 6 .any (Rows.kneadPlacesSpec.pre6 enc Try.prog Try.f6 Rows.kneadPlacesRow.domain false) (Rows.kneadPlacesSpec.post enc Try.prog Try.f6 false true false false) := by
  refine returnsInHanded_of_change_sized (C := Try.checked) own started (by kernel_rfl) Try.func6
    (ChangeSpec.witness6 (enc := enc) (C := Try.checked) false ⟨#[], #[.int .i64 0, .slice none 0 0, .int .i64 0], []⟩ 8 (by kernel_rfl) (by kernel_rfl) (by kernel_rfl) (by kernel_rfl)) ?_
  intro W base args ds gs before hval0 hW hcnd hsz0 _
  have hval : ∀ (j : Nat) t v, Try.f6.params[j]? = some t → args[j]? = some v → Value.okWide Try.prog W .any base t v := hval0
  have hsz : (DataW.weightsEach Try.prog (Try.f6.params.toList ++ Rows.kneadPlacesSpec.plain.varTypes Try.prog) (ds ++ gs)).all (· ≤ reachBytes) = true := hsz0
  have hW' := hW
  obtain ⟨p, q, hA0, hV, rfl, hfz, hnd⟩ := hW
  have hA : DataW.TrodAll enc Try.prog W 0 (fun _ => true) true Try.f6.params.toList args.toList ds p := hA0
  rw [Try.params6] at hA hval hsz
  obtain ⟨v0, vs0, d0, ds0, p0, q0, hargs, rfl, rfl, h0, r0⟩ := trodAll_cons hA
  obtain ⟨v1, vs1, d1, ds1, p1, q1, rfl, rfl, rfl, h1, r1⟩ := trodAll_cons r0
  obtain ⟨v2, vs2, d2, ds2, p2, q2, rfl, rfl, rfl, h2, r2⟩ := trodAll_cons r1
  obtain ⟨rfl, rfl, rfl⟩ := trodAll_nil r2
  obtain rfl : args = #[v0, v1, v2] := by cases args; simp_all
  obtain ⟨rfl, rfl⟩ := trodVars_none hV
  have k0 := h0
  have lt0 : ∀ x ∈ p0, x.block < W.heap.size := by obtain ⟨m, hm⟩ := k0; exact DataW.trod_lt m _ _ _ hm
  have k1 := h1
  have lt1 : ∀ x ∈ p1, x.block < W.heap.size := by obtain ⟨m, hm⟩ := k1; exact DataW.trod_lt m _ _ _ hm
  have k2 := h2
  have lt2 : ∀ x ∈ p2, x.block < W.heap.size := by obtain ⟨m, hm⟩ := k2; exact DataW.trod_lt m _ _ _ hm
  obtain ⟨x0, rfl, rfl, rfl, w0⟩ := open_int Try.underlying3 (hval 0 3 v0 rfl rfl) h0
  have hr1 : ∀ k ∈ d1.weights Try.prog 22, k ≤ reachN := fun k hk => by rw [← reach_eq]; simpa using List.all_eq_true.1 hsz k (DataW.weights_mem_each (j := 1) rfl rfl k hk)
  obtain ⟨A1, n1, c1, zs1, rfl, a1⟩ := open_argI (hval 1 22 v1 rfl rfl) h1 hr1
  obtain ⟨x2, rfl, rfl, rfl, w2⟩ := open_int Try.underlying3 (hval 2 3 v2 rfl rfl) h2
  clear hA0 hval0
  refine (walk x0 A1 n1 c1 zs1 x2 W a1).mono fun e W' ⟨he, bel⟩ => ?_
  subst he
  exact ⟨_, rfl, _, _, _, [], _, [], hW', trodAll_mk1 (shut_bool Try.underlying4 _), trodAll_cons_mk (shut_int Try.underlying3 w0) (trodAll_cons_mk (Below.trod laidOut (by kernel_rfl) (of_decide_eq_true (by kernel_rfl)) k1 bel lt1) (trodAll_cons_mk (shut_int Try.underlying3 w2) (trodAll_mk0))), rfl, Below.frame bel _, fun h => by cases h⟩

theorem over : Rows.kneadPlacesRow.holds Try.pinned (OpenSpec.ofChange Rows.kneadPlacesSpec) :=
  OpenClaim.holds_of_wide 6 Try.f6 rfl rfl rfl rfl rfl rfl rfl ⟨rfl, rfl, rfl, rfl, rfl⟩ rfl rfl rfl rfl rfl (by kernel_rfl) Try.func6 (by kernel_rfl)
    (of_decide_eq_true (by kernel_rfl)) (by unfold Func.isWrapper; rw [if_neg (of_decide_eq_false (by kernel_rfl))]; exact ⟨rfl, rfl⟩)
    (fun os started H enc _ => lifted os started H enc)

/-- The statement. -/
theorem proved : Rows.KneadPlacesSaid := over
end Go.Proofs.Ythjjpmcefiddmaa.kneadPlaces
