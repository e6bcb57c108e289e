/-
  The statement SunBacksSaid: for all tables of numbers Back answers as the document says; the table turned back has as many rings and the same fewest upsets; it is new memory: a number written into it leaves the given one; the tables stay as they were in their spare cells, too, and the known answers come out. No condition.
-/
import Derived.Test.YtahkihifgafbnaaYK
import Derived.Test.YtahkihifgafbnaaXC
namespace Go.Proofs.Ytahkihifgafbnaa.sunBacks
open Go.ChangeShapes Go.WideShapes Go.ChangeAt Go.RowKit Go.Joins

set_option maxRecDepth 100000 in
set_option maxHeartbeats 4000000 in
theorem inner (A : Option Addr) (n c : Nat) (T : List (List Int)) (w : World) (hR : Tab 0 w A T) (hn : T.length = n) (hmax : n ≤ maxLen) :
    Calls Try.prog 31 #[.slice A n c] w fun e w' => e = .returned (.bool true) ∧ Bel w w' := by
  have Hn := Lib.hid hn
  go_enter Try.func31, Try.ntmps31
  go_wp2_with fail
  refine (long_small 0 A n c T _ hR Hn.out hmax).mono ?_
  rintro e w1 ⟨⟨bl, rfl, hsm⟩, hw1⟩
  subst hw1
  cases bl with
  | true =>
    clear hsm
    go_wp2_with fail
    refine (known_any _).mono ?_
    rintro e w9 ⟨rfl, hb9⟩
    go_wp2
    go_ret
    exact ⟨rfl, hb9⟩
  | false =>
    have HSM := Lib.hid (hsm rfl)
    clear hsm
    go_wp2_with fail
    refine (rCopy_any A n c T _ hR Hn.out (by have := HSM.out.1; omega) (fun r hr => by have := HSM.out.2 r hr; omega)).mono ?_
    rintro e w2 ⟨v2, rfl, hb2, bs2, cs2, hG2⟩
    obtain ⟨A2, n2, c2, rfl, hn2, hT2⟩ := (copG_ownT hG2 Hn.out (fun r hr => by have := HSM.out.2 r hr; omega)).form
    rw [Hn.out] at hn2
    subst hn2
    have hT2' := hT2.low (lo' := 0) (Nat.zero_le _)
    clear hG2 hT2
    by_cases hz : errT T = 0
    · obtain ⟨⟨h1, h7⟩, -, -⟩ := errT_zero hz
      rw [hn] at h1 h7
      have HZ := Lib.hid hz
      have hB := beats_of hn hz
      have HBE := Lib.hid (backL_err hB h1 h7)
      have HRI := Lib.hid ((backL_rev T n2).rings hB)
      have HBS := Lib.hid ((backL_rev T n2).best hB h1)
      have HBL := Lib.hid (backL_len T n2)
      clear hn hz hB
      go_wp2_with fail
      refine (rback_ok 0 A n2 c T _ (hR.bel hb2) Hn.out HZ.out).mono ?_
      rintro e w3 ⟨v3, base3, rfl, hbs3, hb3', hG3⟩
      obtain ⟨A3, n3, c3, rfl, hn3, hT3⟩ := (hG3.ownT h7).form
      rw [HBL.out] at hn3
      subst hn3
      have hT3' := hT3.low (lo' := 0) (Nat.zero_le _)
      have hb3 := hb2.trans hb3'
      clear hG3 hT3
      go_wp2_with fail
      refine (back_ok 0 A2 n3 c2 T _ (hT2'.bel hb3') Hn.out HZ.out).mono ?_
      rintro e w4 ⟨v4, base4, rfl, hbs4, hb4', hG4⟩
      obtain ⟨g4, c4, bs4, cs4, rfl, hG⟩ := hG4.form h1
      obtain ⟨A4, n4, c4', hv4, hn4, hT4⟩ := (hG4.ownT h7).form
      obtain ⟨rfl, rfl, rfl⟩ : some ⟨g4, 0, none⟩ = A4 ∧ n3 = n4 ∧ c4 = c4' := by
        injection hv4 with e1 e2 e3
        exact ⟨e1, e2, e3⟩
      have hT4' := hT4.low (lo' := 0) (Nat.zero_le _)
      have hb4 := hb3.trans hb4'
      have HG := Lib.hid hG
      clear hG4 hT4 hv4 hn4 hG
      go_wp2_with fail
      refine (sameTables_any 0 0 (some ⟨g4, 0, none⟩) A3 n3 c4 n3 c3 (backL T n3) _ hT4' (hT3'.bel hb4') HBL.out HBL.out hmax).mono ?_
      rintro e w5 ⟨rfl, hb5⟩
      have hb45 := hb4.trans hb5
      go_wp2_with fail
      refine (rings_ok 0 (some ⟨g4, 0, none⟩) n3 c4 (backL T n3) _ (hT4'.bel hb5) HBL.out HBE.out).mono ?_
      rintro e w6 ⟨rfl, hb6⟩
      rw [HRI.out]
      go_wp2_with fail
      refine (rings_ok 0 A n3 c T _ (hR.bel (hb45.trans hb6)) Hn.out HZ.out).mono ?_
      rintro e w7 ⟨rfl, hb7⟩
      have hb57 := (hb5.trans hb6).trans hb7
      go_wp2_with fail
      refine (fewest_ok 0 (some ⟨g4, 0, none⟩) n3 c4 (backL T n3) _ (hT4'.bel hb57) HBL.out HBE.out).mono ?_
      rintro e w8 ⟨rfl, hb8⟩
      rw [HBS.out]
      go_wp2_with fail
      refine (fewest_ok 0 A n3 c T _ (hR.bel (hb4.trans (hb57.trans hb8))) Hn.out HZ.out).mono ?_
      rintro e w9 ⟨rfl, hb9⟩
      have hb59 := (hb57.trans hb8).trans hb9
      have hGr := HG.out.bel hb59
      have q1 := hGr.cell (i := 0) (by omega)
      obtain ⟨m, hm, hrow⟩ := hGr.row 0 (by omega)
      have q2 := hrow.cells 0 (by omega)
      have q3 := hrow.fz 0
      have q4 := hGr.lo 0 (by omega)
      have hgl := (World.ownsRow.lt hGr.own g4 rfl).2
      obtain ⟨b4, hb4e⟩ : ∃ b4, b4 = bs4 0 := ⟨_, rfl⟩
      rw [← hb4e] at q1 q2 q3 q4 hrow
      have hbl := hrow.lt
      obtain ⟨u, hu⟩ : ∃ u, u = ent T 0 0 := ⟨_, rfl⟩
      rw [← hu] at q2
      obtain ⟨rg, hrg⟩ : ∃ rg, rg = ringTo T n3 n3 := ⟨_, rfl⟩
      rw [← hrg]
      obtain ⟨be, hbe⟩ : ∃ be, be = (bestS T n3).2 := ⟨_, rfl⟩
      rw [← hbe]
      have hb39 : Bel w3 (w9.setCell ⟨b4, 0, none⟩ (.int .i64 9)) := (hb4'.trans hb59).setCell (by simp <;> omega) _
      have hnz : ((n3 : Int) ≤ 0) = False := by simp; omega
      have h0n : (0 : Int) < (n3 : Int) := by omega
      clear hGr hrow hb4e hu hrg hbe hm
      go_wp2_with (first | (go_at_call 54; refine (sameTables_any 0 0 A2 A n3 c2 n3 c T _ (hT2'.bel (hb3'.trans hb39)) (hR.bel (hb3.trans hb39)) Hn.out Hn.out hmax).mono ?_; rintro e w10 ⟨rfl, hb10⟩) | (go_at_call 36; refine (known_any _).mono ?_; rintro e w11 ⟨rfl, hb11⟩))
      go_ret
      exact ⟨rfl, ((hb3.trans hb39).trans hb10).trans hb11⟩
    · have HZ := Lib.hid hz
      obtain ⟨ev, hev⟩ : ∃ x, x = errT T := ⟨_, rfl⟩
      have HEV := Lib.hid hev
      have hz' : (ev != 0) = true := by rw [hev]; simpa using hz
      have hee : (ev != ev) = false := by simp
      clear hn hz hev
      go_wp2_with fail
      refine (rback_err 0 A n2 c T _ (hR.bel hb2) Hn.out HZ.out).mono ?_
      rintro e w3 ⟨rfl, hb3'⟩
      rw [← HEV.out]
      have hb3 := hb2.trans hb3'
      go_wp2_with fail
      refine (back_err 0 A2 n2 c2 T _ (hT2'.bel hb3') Hn.out HZ.out).mono ?_
      rintro e w4 ⟨rfl, hb4'⟩
      rw [← HEV.out]
      have hb4 := hb3.trans hb4'
      go_wp2_with fail
      refine (sameTables_any 0 0 none none 0 0 0 0 [] _ (.inl rfl) (.inl rfl) rfl rfl (Nat.zero_le _)).mono ?_
      rintro e w8 ⟨rfl, hb8⟩
      go_wp2_with fail
      refine (known_any _).mono ?_
      rintro e w9 ⟨rfl, hb9⟩
      go_wp2
      go_ret
      exact ⟨rfl, (hb4.trans hb8).trans hb9⟩

set_option maxRecDepth 100000 in
set_option maxHeartbeats 1000000 in
theorem walk (A : Option Addr) (n c : Nat) (Z : List RowZ) (w : World) (hx : ArgT w A n c Z) :
    Calls Try.prog 13 #[.slice A n c] w fun e w' => e = .returned (.bool true) ∧ Bel w w' := by
  obtain ⟨x1, x2, x3⟩ := hx.els
  go_enter Try.func13, Try.ntmps13
  go_wp2_with fail
  refine (keepTable_any A n c Z _ hx).mono ?_
  rintro e w1 ⟨A', n', c', rfl, hn', hb1, hr1⟩
  have HN := Lib.hid hn'; clear hn'
  go_wp2_with fail
  refine (inner A n c _ _ (x1.bel hb1) x2 x3).mono ?_
  rintro e w2 ⟨rfl, hb2⟩
  go_wp2_with fail
  refine (keptTable_any A' A n' c' n c Z _ ((hr1.low (Nat.zero_le _)).bel hb2) (hx.bel (hb1.trans hb2)) HN.out).mono ?_
  rintro e w3 ⟨rfl, hb3⟩
  go_wp2
  go_ret
  exact ⟨rfl, (hb1.trans hb2).trans hb3⟩

set_option maxRecDepth 100000 in
theorem lifted (os : Os) (started : os.Started) (H : Type) (enc : TypeId × Value → H) :
    ReturnsInHanded {} Try.checked os 13 .any (Rows.sunBacksSpec.pre6 enc Try.prog Try.f13 Rows.sunBacksRow.domain false) (Rows.sunBacksSpec.post enc Try.prog Try.f13 false true false false) := by
  refine returnsInHanded_of_change_sized (C := Try.checked) own started (by kernel_rfl) Try.func13
    (ChangeSpec.witness6 (enc := enc) (C := Try.checked) false ⟨#[], #[.slice none 0 0], []⟩ 8 (by kernel_rfl) (by kernel_rfl) (by kernel_rfl) (by kernel_rfl)) ?_
  intro W base args ds gs before hval0 hW hcnd hsz0 _
  have hval : ∀ (j : Nat) t v, Try.f13.params[j]? = some t → args[j]? = some v → Value.okWide Try.prog W .any base t v := hval0
  have hsz : (DataW.weightsEach Try.prog (Try.f13.params.toList ++ Rows.sunBacksSpec.plain.varTypes Try.prog) (ds ++ gs)).all (· ≤ reachBytes) = true := hsz0
  have hW' := hW
  obtain ⟨p, q, hA0, hV, rfl, hfz, hnd⟩ := hW
  have hA : DataW.TrodAll enc Try.prog W 0 (fun _ => true) true Try.f13.params.toList args.toList ds p := hA0
  rw [Try.params13] at hA hval hsz
  obtain ⟨v0, vs0, d0, ds0, p0, q0, hargs, rfl, rfl, h0, r0⟩ := trodAll_cons hA
  obtain ⟨rfl, rfl, rfl⟩ := trodAll_nil r0
  obtain rfl : args = #[v0] := by cases args; simp_all
  obtain ⟨rfl, rfl⟩ := trodVars_none hV
  have k0 := h0
  have lt0 : ∀ x ∈ p0, x.block < W.heap.size := by obtain ⟨m, hm⟩ := k0; exact DataW.trod_lt m _ _ _ hm
  have hr0 : ∀ k ∈ d0.weights Try.prog 22, k ≤ reachN := fun k hk => by rw [← reach_eq]; simpa using List.all_eq_true.1 hsz k (DataW.weights_mem_each (j := 0) rfl rfl k hk)
  obtain ⟨A0, n0, c0, zs0, rfl, a0⟩ := open_argT (hval 0 22 v0 rfl rfl) h0 hr0
  clear hA0 hval0
  refine (walk A0 n0 c0 zs0 W a0).mono fun e W' ⟨he, bel⟩ => ?_
  subst he
  exact ⟨_, rfl, _, _, _, [], _, [], hW', trodAll_mk1 (shut_bool Try.underlying4 _), trodAll_cons_mk (Below.trod laidOut (by kernel_rfl) (of_decide_eq_true (by kernel_rfl)) k0 bel lt0) (trodAll_mk0), rfl, Below.frame bel _, fun h => by cases h⟩

theorem over : Rows.sunBacksRow.holds Try.pinned (OpenSpec.ofChange Rows.sunBacksSpec) :=
  OpenClaim.holds_of_wide 13 Try.f13 rfl rfl rfl rfl rfl rfl rfl ⟨rfl, rfl, rfl, rfl, rfl⟩ rfl rfl rfl rfl rfl (by kernel_rfl) Try.func13 (by kernel_rfl)
    (of_decide_eq_true (by kernel_rfl)) (by unfold Func.isWrapper; rw [if_neg (of_decide_eq_false (by kernel_rfl))]; exact ⟨rfl, rfl⟩)
    (fun os started H enc _ => lifted os started H enc)

/-- The statement. -/
theorem proved : Rows.SunBacksSaid := over
end Go.Proofs.Ytahkihifgafbnaa.sunBacks
