/-
  The statement KneadPairsSaid: for all lists and words Pairs answers as the document says, and a folded dough has pairs exactly if the dough has them; the lists stay as they were in their spare cells, too, and the known answers come out. No condition.
-/
import Derived.Test.YthjjpmcefiddmaaT
import Derived.Test.YthjjpmcefiddmaaU
import Derived.Test.YthjjpmcefiddmaaM
import Derived.Test.YthjjpmcefiddmaaI
namespace Go.Proofs.Ythjjpmcefiddmaa.kneadPairs
open Go.ChangeShapes Go.WideShapes Go.ChangeAt Go.RowKit Go.Joins

attribute [local go_sem] Oper.semAt_some

theorem unN_rev {h k q : Nat} (hk : k ≤ 1) (hq : q < 2 * h) : unN h k (2 * h - 1 - q) = 2 * h - 1 - unN h k q := by
  unfold unN
  by_cases h1 : q % 2 = k
  · rw [if_pos h1, if_neg (by omega)]; omega
  · rw [if_neg h1, if_pos (by omega)]; omega
theorem unW_rev {h : Nat} : ∀ {ws : List Int}, WordOK ws → ∀ {q : Nat}, q < 2 * h → unW h ws (2 * h - 1 - q) = 2 * h - 1 - unW h ws q
  | [], _, _, _ => rfl
  | v :: r, hw, q, hq => by
    rw [unW_cons, unW_cons, unW_rev (ws := r) (fun u hu => hw u (List.mem_cons_of_mem _ hu)) hq, unN_rev (hw.nat (v := v) List.mem_cons_self).1 (unW_lt r hq)]
theorem pairs_fold {h : Nat} {ws l : List Int} (h1 : 1 ≤ h) (hw : WordOK ws) : pairsB h (byF h (unW h ws) l) = pairsB h l := by
  have hat : ∀ p, p < 2 * h → (byF h (unW h ws) l).getD p 0 + (byF h (unW h ws) l).getD (2 * h - 1 - p) 0 = l.getD (unW h ws p) 0 + l.getD (2 * h - 1 - unW h ws p) 0 := fun p hp => by
    rw [byF_at hp, byF_at (by omega), unW_rev hw hp]
  have h0 := hat 0 (by omega)
  rw [Nat.sub_zero] at h0
  unfold pairsB
  rw [h0]
  refine decide_eq_decide.2 ⟨fun e p hp => ?_, fun e p hp => ?_⟩
  · have a := e (goW h ws p) (goW_lt hw hp)
    rw [hat _ (goW_lt hw hp), un_goW hw hp] at a
    have b := e (goW h ws 0) (goW_lt hw (by omega))
    rw [hat _ (goW_lt hw (by omega)), un_goW hw (by omega), Nat.sub_zero] at b
    rw [a, ← b]
  · rw [hat p hp, e _ (unW_lt ws hp), e (unW h ws 0) (unW_lt ws (by omega))]
theorem inI_fold {h : Nat} {g : Nat → Nat} {l : List Int} (hl : ∀ v ∈ l, InI v) : ∀ v ∈ byF h g l, InI v := by
  intro v hv
  unfold byF at hv
  obtain ⟨i, _, rfl⟩ := List.mem_map.1 hv
  rw [List.getD_eq_getElem?_getD]
  cases e : l[g i]? with
  | none => exact ⟨by decide, by decide⟩
  | some u => exact hl u (List.mem_of_getElem? e)
set_option maxRecDepth 100000 in
set_option maxHeartbeats 4000000 in
theorem inner (A : Option Addr) (n c : Nat) (l : List Int) (B : Option Addr) (m d : Nat) (ws : List Int) (w : World) (hin : ∀ v ∈ l, InI v) (hR : Ints w A l) (hn : l.length = n) (_hc : n ≤ c) (_hmx : n ≤ maxLen) (hB : Ints w B ws) (hm : ws.length = m) (_hd : m ≤ d) (hmy : m ≤ maxLen) :
    Calls Try.prog 37 #[.slice A n c, .slice B m d] w fun e w' => e = .returned (.bool true) ∧ Bel w w' := by
  have Hn := Lib.hid hn; have Hm := Lib.hid hm; have HI := Lib.hid hin
  clear hin
  by_cases ha : 100 < n
  · have HL := Lib.hid (decide_eq_true ha)
    clear ha hn hm
    go_enter Try.func37, Try.ntmps37
    go_wp2_with fail
    refine (long_any A n c _).mono ?_
    rintro e w1 ⟨rfl, rfl⟩
    rw [HL.out]
    go_wp2_with fail
    refine (known_any _).mono ?_
    rintro e w9 ⟨rfl, hb9⟩
    go_wp2
    go_ret
    exact ⟨rfl, hb9⟩
  · have HL := Lib.hid (decide_eq_false ha)
    by_cases hb : 100 < m
    · have HL2 := Lib.hid (decide_eq_true hb)
      clear ha hb hn hm
      go_enter Try.func37, Try.ntmps37
      go_wp2_with fail
      refine (long_any A n c _).mono ?_
      rintro e w1 ⟨rfl, rfl⟩
      rw [HL.out]
      go_wp2_with fail
      refine (long_any B m d _).mono ?_
      rintro e w1 ⟨rfl, rfl⟩
      rw [HL2.out]
      go_wp2_with fail
      refine (known_any _).mono ?_
      rintro e w9 ⟨rfl, hb9⟩
      go_wp2
      go_ret
      exact ⟨rfl, hb9⟩
    · have HL2 := Lib.hid (decide_eq_false hb)
      clear ha hb
      by_cases hD : eD (n : Int) = 0
      · obtain ⟨h, h1, h16, h3⟩ := eD_zero hD
        obtain rfl : n = 2 * h := by omega
        have HDD := Lib.hid hD
        clear h3 hD
        by_cases hE : eW ws = 0
        · have HW := Lib.hid (eW_zero hE).2
          have HE := Lib.hid (show eDW ((2 * h : Nat) : Int) ws = 0 by unfold eDW; rw [if_pos HDD.out]; exact hE)
          have HP := Lib.hid (pairs_fold (l := l) h1 HW.out)
          have HI2 := Lib.hid (inI_fold (h := h) (g := unW h ws) HI.out)
          obtain ⟨pb, hpb⟩ : ∃ pb, pb = pairsB h l := ⟨_, rfl⟩
          rw [← hpb] at HP
          have HPB := Lib.hid hpb
          have e1 : (pb != pb) = false := by simp
          have e2 : (pb == pb) = true := by simp
          clear hE hn hm hpb
          go_enter Try.func37, Try.ntmps37
          go_wp2_with fail
          refine (long_any A (2 * h) c _).mono ?_
          rintro e w1 ⟨rfl, hw1⟩
          subst hw1
          rw [HL.out]
          go_wp2_with fail
          refine (long_any B m d _).mono ?_
          rintro e w1 ⟨rfl, hw1⟩
          subst hw1
          rw [HL2.out]
          go_wp2_with fail
          refine (rpairs_ok h A c l _ h1 h16 hR Hn.out HI.out).mono ?_
          rintro e w2 ⟨rfl, hb2⟩
          rw [← HPB.out]
          go_wp2_with fail
          refine (pairs_ok h A c l _ h1 h16 (hR.bel hb2) Hn.out HI.out).mono ?_
          rintro e w3 ⟨rfl, hb3⟩
          rw [← HPB.out]
          have hb13 := hb2.trans hb3
          go_wp2_with fail
          refine (fold_ok h A c l B m d ws _ (hR.bel hb13) Hn.out (hB.bel hb13) Hm.out HE.out).mono ?_
          rintro e w4 ⟨A4, c4, rfl, hc4, hb4, hI4⟩
          go_wp2_with fail
          refine (pairs_ok h A4 c4 _ _ h1 h16 hI4 (byF_len _ _ _) HI2.out).mono ?_
          rintro e w5 ⟨rfl, hb5⟩
          rw [HP.out]
          go_wp2_with fail
          refine (known_any _).mono ?_
          rintro e w6 ⟨rfl, hb6⟩
          go_wp2
          go_ret
          exact ⟨rfl, ((hb13.trans hb4).trans hb5).trans hb6⟩
        · have HX := Lib.hid (show eDW ((2 * h : Nat) : Int) ws = eW ws by unfold eDW; rw [if_pos HDD.out])
          have HN := Lib.hid (show eDW ((2 * h : Nat) : Int) ws ≠ 0 by rw [HX.out]; exact hE)
          obtain ⟨x, hx⟩ : ∃ x, x = eDW ((2 * h : Nat) : Int) ws := ⟨_, rfl⟩
          have HXX := Lib.hid hx
          have hx0 : (x != 0) = true := by rw [hx]; simpa using HN.out
          obtain ⟨pb, hpb⟩ : ∃ pb, pb = pairsB h l := ⟨_, rfl⟩
          have HPB := Lib.hid hpb
          have e1 : (pb != pb) = false := by simp
          clear hE hn hm hpb hx
          go_enter Try.func37, Try.ntmps37
          go_wp2_with fail
          refine (long_any A (2 * h) c _).mono ?_
          rintro e w1 ⟨rfl, hw1⟩
          subst hw1
          rw [HL.out]
          go_wp2_with fail
          refine (long_any B m d _).mono ?_
          rintro e w1 ⟨rfl, hw1⟩
          subst hw1
          rw [HL2.out]
          go_wp2_with fail
          refine (rpairs_ok h A c l _ h1 h16 hR Hn.out HI.out).mono ?_
          rintro e w2 ⟨rfl, hb2⟩
          rw [← HPB.out]
          go_wp2_with fail
          refine (pairs_ok h A c l _ h1 h16 (hR.bel hb2) Hn.out HI.out).mono ?_
          rintro e w3 ⟨rfl, hb3⟩
          rw [← HPB.out]
          have hb13 := hb2.trans hb3
          go_wp2_with fail
          refine (fold_err A (2 * h) c B m d ws _ (hB.bel hb13) Hm.out hmy HN.out).mono ?_
          rintro e w4 ⟨rfl, hb4⟩
          rw [← HXX.out]
          go_wp2_with fail
          refine (known_any _).mono ?_
          rintro e w6 ⟨rfl, hb6⟩
          go_wp2
          go_ret
          exact ⟨rfl, (hb13.trans hb4).trans hb6⟩
      · have HN := Lib.hid (show eDW (n : Int) ws ≠ 0 by unfold eDW; rw [if_neg hD]; decide)
        have HX := Lib.hid (show eDW (n : Int) ws = 1 by unfold eDW; rw [if_neg hD])
        have HDD := Lib.hid hD
        clear hD hn hm
        go_enter Try.func37, Try.ntmps37
        go_wp2_with fail
        refine (long_any A n c _).mono ?_
        rintro e w1 ⟨rfl, hw1⟩
        subst hw1
        rw [HL.out]
        go_wp2_with fail
        refine (long_any B m d _).mono ?_
        rintro e w1 ⟨rfl, hw1⟩
        subst hw1
        rw [HL2.out]
        go_wp2_with fail
        refine (rpairs_err A n c _ HDD.out).mono ?_
        rintro e w2 ⟨rfl, hb2⟩
        go_wp2_with fail
        refine (pairs_err A n c _ HDD.out).mono ?_
        rintro e w3 ⟨rfl, hb3⟩
        go_wp2_with fail
        refine (fold_err A n c B m d ws _ (hB.bel (hb2.trans hb3)) Hm.out hmy HN.out).mono ?_
        rintro e w4 ⟨rfl, hb4⟩
        rw [HX.out]
        go_wp2_with fail
        refine (known_any _).mono ?_
        rintro e w6 ⟨rfl, hb6⟩
        go_wp2
        go_ret
        exact ⟨rfl, ((hb2.trans hb3).trans hb4).trans hb6⟩

set_option maxRecDepth 100000 in
set_option maxHeartbeats 1000000 in
theorem walk (A0 : Option Addr) (n0 c0 : Nat) (zs0 : List Int) (A1 : Option Addr) (n1 c1 : Nat) (zs1 : List Int) (w : World) (hx0 : ArgJ w A0 n0 c0 zs0) (hx1 : ArgI w A1 n1 c1 zs1) :
    Calls Try.prog 13 #[.slice A0 n0 c0, .slice A1 n1 c1] w fun e w' => e = .returned (.bool true) ∧ Bel w w' := by
  obtain ⟨hx0, hj0⟩ := hx0
  obtain ⟨y0, z0, m0⟩ := hx0.els
  obtain ⟨y1, z1, m1⟩ := hx1.els
  go_enter Try.func13, Try.ntmps13
  go_wp2_with fail
  refine (keepInts_any A0 n0 c0 zs0 _ (hx0.ints.bel (Bel.refl w)) hx0.len hx0.le hx0.nil hx0.reach).mono ?_
  rintro e k0 ⟨B0, q0, d0, rfl, hq0, hk0, hI0, hlo0⟩
  have HQ0 := Lib.hid hq0; clear hq0 hlo0
  have hc0 : Bel w k0 := (Bel.refl w).trans hk0
  go_wp2_with fail
  refine (keepInts_any A1 n1 c1 zs1 _ (hx1.ints.bel hc0) hx1.len hx1.le hx1.nil hx1.reach).mono ?_
  rintro e k1 ⟨B1, q1, d1, rfl, hq1, hk1, hI1, hlo1⟩
  have HQ1 := Lib.hid hq1; clear hq1 hlo1
  have hc1 : Bel w k1 := hc0.trans hk1
  go_wp2_with fail
  refine (inner A0 n0 c0 _ A1 n1 c1 _ _ (fun v hv => hj0 v (List.mem_of_mem_take hv)) (y0.bel hc1) z0 hx0.le m0 (y1.bel hc1) z1 hx1.le m1).mono ?_
  rintro e w4 ⟨rfl, hb4⟩
  have hw4 : Bel w w4 := hc1.trans hb4
  go_wp2_with fail
  refine (keptInts_any B0 A0 q0 d0 n0 c0 zs0 _ (hI0.bel (hk1.trans hb4)) (hx0.ints.bel hw4) HQ0.out.symm hx0.len hx0.le hx0.nil (reachN_le hx0.reach (by omega)).1).mono ?_
  rintro e u0 ⟨rfl, hu0⟩
  have hv0 := hw4.trans hu0
  go_wp2_with fail
  refine (keptInts_any B1 A1 q1 d1 n1 c1 zs1 _ (hI1.bel (hb4.trans hu0)) (hx1.ints.bel hv0) HQ1.out.symm hx1.len hx1.le hx1.nil (reachN_le hx1.reach (by omega)).1).mono ?_
  rintro e u1 ⟨rfl, hu1⟩
  have hv1 := hv0.trans hu1
  go_wp2
  go_ret
  exact ⟨rfl, hv1⟩

set_option maxRecDepth 100000 in
theorem lifted (os : Os) (started : os.Started) (H : Type) (enc : TypeId × Value → H) :
    ReturnsInHanded {} Try.checked os 13 .any (Rows.kneadPairsSpec.pre6 enc Try.prog Try.f13 Rows.kneadPairsRow.domain false) (Rows.kneadPairsSpec.post enc Try.prog Try.f13 false true false false) := by
  refine returnsInHanded_of_change_sized (C := Try.checked) own started (by kernel_rfl) Try.func13
    (ChangeSpec.witness6 (enc := enc) (C := Try.checked) false ⟨#[], #[.slice none 0 0, .slice none 0 0], []⟩ 8 (by kernel_rfl) (by kernel_rfl) (by kernel_rfl) (by kernel_rfl)) ?_
  intro W base args ds gs before hval0 hW hcnd hsz0 _
  have hval : ∀ (j : Nat) t v, Try.f13.params[j]? = some t → args[j]? = some v → Value.okWide Try.prog W .any base t v := hval0
  have hsz : (DataW.weightsEach Try.prog (Try.f13.params.toList ++ Rows.kneadPairsSpec.plain.varTypes Try.prog) (ds ++ gs)).all (· ≤ reachBytes) = true := hsz0
  have hW' := hW
  obtain ⟨p, q, hA0, hV, rfl, hfz, hnd⟩ := hW
  have hA : DataW.TrodAll enc Try.prog W 0 (fun _ => true) true Try.f13.params.toList args.toList ds p := hA0
  rw [Try.params13] at hA hval hsz
  obtain ⟨v0, vs0, d0, ds0, p0, q0, hargs, rfl, rfl, h0, r0⟩ := trodAll_cons hA
  obtain ⟨v1, vs1, d1, ds1, p1, q1, rfl, rfl, rfl, h1, r1⟩ := trodAll_cons r0
  obtain ⟨rfl, rfl, rfl⟩ := trodAll_nil r1
  obtain rfl : args = #[v0, v1] := by cases args; simp_all
  obtain ⟨rfl, rfl⟩ := trodVars_none hV
  have k0 := h0
  have lt0 : ∀ x ∈ p0, x.block < W.heap.size := by obtain ⟨m, hm⟩ := k0; exact DataW.trod_lt m _ _ _ hm
  have k1 := h1
  have lt1 : ∀ x ∈ p1, x.block < W.heap.size := by obtain ⟨m, hm⟩ := k1; exact DataW.trod_lt m _ _ _ hm
  have hr0 : ∀ k ∈ d0.weights Try.prog 22, k ≤ reachN := fun k hk => by rw [← reach_eq]; simpa using List.all_eq_true.1 hsz k (DataW.weights_mem_each (j := 0) rfl rfl k hk)
  obtain ⟨A0, n0, c0, zs0, rfl, a0⟩ := open_argJ (hval 0 22 v0 rfl rfl) h0 hr0
  have hr1 : ∀ k ∈ d1.weights Try.prog 22, k ≤ reachN := fun k hk => by rw [← reach_eq]; simpa using List.all_eq_true.1 hsz k (DataW.weights_mem_each (j := 1) rfl rfl k hk)
  obtain ⟨A1, n1, c1, zs1, rfl, a1⟩ := open_argI (hval 1 22 v1 rfl rfl) h1 hr1
  clear hA0 hval0
  refine (walk A0 n0 c0 zs0 A1 n1 c1 zs1 W a0 a1).mono fun e W' ⟨he, bel⟩ => ?_
  subst he
  exact ⟨_, rfl, _, _, _, [], _, [], hW', trodAll_mk1 (shut_bool Try.underlying4 _), trodAll_cons_mk (Below.trod laidOut (by kernel_rfl) (of_decide_eq_true (by kernel_rfl)) k0 bel lt0) (trodAll_cons_mk (Below.trod laidOut (by kernel_rfl) (of_decide_eq_true (by kernel_rfl)) k1 bel lt1) (trodAll_mk0)), rfl, Below.frame bel _, fun h => by cases h⟩

theorem over : Rows.kneadPairsRow.holds Try.pinned (OpenSpec.ofChange Rows.kneadPairsSpec) :=
  OpenClaim.holds_of_wide 13 Try.f13 rfl rfl rfl rfl rfl rfl rfl ⟨rfl, rfl, rfl, rfl, rfl⟩ rfl rfl rfl rfl rfl (by kernel_rfl) Try.func13 (by kernel_rfl)
    (of_decide_eq_true (by kernel_rfl)) (by unfold Func.isWrapper; rw [if_neg (of_decide_eq_false (by kernel_rfl))]; exact ⟨rfl, rfl⟩)
    (fun os started H enc _ => lifted os started H enc)

/-- The statement. -/
theorem proved : Rows.KneadPairsSaid := over
end Go.Proofs.Ythjjpmcefiddmaa.kneadPairs
