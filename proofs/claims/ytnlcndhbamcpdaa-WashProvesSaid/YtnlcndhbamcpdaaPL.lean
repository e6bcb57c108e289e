/-
  The statement WashProvesSaid: for all lots and moves CheckFiner and Moves answer as the document says, there are moves exactly if the lot is finer, and those that are returned are accepted; the lists stay as they were in their spare cells, too, and the known masses come out. No condition.
-/
import Derived.Test.YtnlcndhbamcpdaaMN
import Derived.Test.YtnlcndhbamcpdaaY2
namespace Go.Proofs.Ytnlcndhbamcpdaa.washProves
open Go.ChangeShapes Go.WideShapes Go.ChangeAt Go.RowKit Go.Joins

set_option maxRecDepth 100000 in
set_option maxHeartbeats 4000000 in
theorem inner (A B C : Option Addr) (n c m d l k : Nat) (gs hs : List (Int × Int)) (ms : List (Int × Int × Int)) (w : World) (hR : Prs w A gs) (hS : Prs w B hs) (hT : Trs w C ms) (hn : gs.length = n) (hm : hs.length = m) (hl : ms.length = l) (hmax3 : l ≤ maxLen) :
    Calls Try.prog 37 #[.slice A n c, .slice B m d, .slice C l k] w fun e w' => e = .returned (.bool true) ∧ Bel w w' := by
  by_cases h40 : 40 < n
  · have hk : decide (40 < n) = true := by simpa using h40
    go_enter Try.func37, Try.ntmps37
    go_wp2_with (first | (go_at_call 41; refine (long_any _ _ _ _).mono ?_; rintro e w' ⟨rfl, rfl⟩) | (go_at_call 24; refine (known_any _).mono ?_; rintro e w7 ⟨rfl, hb7⟩))
    go_ret
    exact ⟨rfl, by (repeat (first | exact Bel.refl _ | assumption | refine Bel.drew ?_ | refine Bel.drewN ?_ _ | refine Bel.alloc ?_ _ | refine Bel.setCell ?_ (by first | omega | (simp; done) | (simp; omega) | (simp at *; omega)) _ | refine Bel.trans ?_ (by assumption)))⟩
  have hk : decide (40 < n) = false := by simpa using h40
  by_cases h41 : 40 < m
  · have hk2 : decide (40 < m) = true := by simpa using h41
    go_enter Try.func37, Try.ntmps37
    go_wp2_with (first | (go_at_call 41; refine (long_any _ _ _ _).mono ?_; rintro e w' ⟨rfl, rfl⟩) | (go_at_call 24; refine (known_any _).mono ?_; rintro e w7 ⟨rfl, hb7⟩))
    go_ret
    exact ⟨rfl, by (repeat (first | exact Bel.refl _ | assumption | refine Bel.drew ?_ | refine Bel.drewN ?_ _ | refine Bel.alloc ?_ _ | refine Bel.setCell ?_ (by first | omega | (simp; done) | (simp; omega) | (simp at *; omega)) _ | refine Bel.trans ?_ (by assumption)))⟩
  have hk2 : decide (40 < m) = false := by simpa using h41
  have hli : (l : Int) ≤ 9223372036854775807 := by unfold maxLen at hmax3; omega
  by_cases h60 : 60 < l
  · clear hmax3
    go_enter Try.func37, Try.ntmps37
    go_wp2_with (first | (go_at_call 41; refine (long_any _ _ _ _).mono ?_; rintro e w' ⟨rfl, rfl⟩) | (go_at_call 24; refine (known_any _).mono ?_; rintro e w7 ⟨rfl, hb7⟩))
    go_ret
    exact ⟨rfl, by (repeat (first | exact Bel.refl _ | assumption | refine Bel.drew ?_ | refine Bel.drewN ?_ _ | refine Bel.alloc ?_ _ | refine Bel.setCell ?_ (by first | omega | (simp; done) | (simp; omega) | (simp at *; omega)) _ | refine Bel.trans ?_ (by assumption)))⟩
  have hmax : n ≤ maxLen := by unfold maxLen; omega
  have hmax2 : m ≤ maxLen := by unfold maxLen; omega
  have hmx12 : 12 ≤ maxLen := by unfold maxLen; omega
  have Hn := Lib.hid hn; have Hm := Lib.hid hm; have Hl := Lib.hid hl; have HX3 := Lib.hid hmax3; have HX12 := Lib.hid hmx12
  clear hli hn hm hl hmax3 hmx12
  go_enter Try.func37, Try.ntmps37
  go_wp2_with (go_at_call 41; refine (long_any _ _ _ _).mono ?_; rintro e w' ⟨rfl, rfl⟩)
  refine (wCheck_any A B C n c m d l k gs hs ms _ hR hS hT Hn.out Hm.out Hl.out hmax hmax2 HX3.out).mono ?_
  rintro e w1 ⟨rfl, hb1⟩
  go_wp2_with fail
  refine (rCheck_any A B C n c m d l k gs hs ms _ (hR.bel (by (repeat (first | exact Bel.refl _ | assumption | refine Bel.drew ?_ | refine Bel.drewN ?_ _ | refine Bel.alloc ?_ _ | refine Bel.setCell ?_ (by first | omega | (simp; done) | (simp; omega) | (simp at *; omega)) _ | refine Bel.trans ?_ (by assumption))))) (hS.bel (by (repeat (first | exact Bel.refl _ | assumption | refine Bel.drew ?_ | refine Bel.drewN ?_ _ | refine Bel.alloc ?_ _ | refine Bel.setCell ?_ (by first | omega | (simp; done) | (simp; omega) | (simp at *; omega)) _ | refine Bel.trans ?_ (by assumption))))) (hT.bel (by (repeat (first | exact Bel.refl _ | assumption | refine Bel.drew ?_ | refine Bel.drewN ?_ _ | refine Bel.alloc ?_ _ | refine Bel.setCell ?_ (by first | omega | (simp; done) | (simp; omega) | (simp at *; omega)) _ | refine Bel.trans ?_ (by assumption))))) Hn.out Hm.out Hl.out hmax hmax2 HX3.out).mono ?_
  rintro e w2 ⟨rfl, hb2⟩
  generalize checkE gs hs ms = ck at *
  go_wp2_with fail
  refine (rFiner_any A B n c m d gs hs _ (hR.bel (by (repeat (first | exact Bel.refl _ | assumption | refine Bel.drew ?_ | refine Bel.drewN ?_ _ | refine Bel.alloc ?_ _ | refine Bel.setCell ?_ (by first | omega | (simp; done) | (simp; omega) | (simp at *; omega)) _ | refine Bel.trans ?_ (by assumption))))) (hS.bel (by (repeat (first | exact Bel.refl _ | assumption | refine Bel.drew ?_ | refine Bel.drewN ?_ _ | refine Bel.alloc ?_ _ | refine Bel.setCell ?_ (by first | omega | (simp; done) | (simp; omega) | (simp at *; omega)) _ | refine Bel.trans ?_ (by assumption))))) Hn.out Hm.out hmax hmax2).mono ?_
  rintro e w3 ⟨rfl, hb3⟩
  unfold boolE
  cases hf : (finV gs hs).1
  · have HF := Lib.hid hf
    clear hf
    go_wp2_with fail
    refine (wMoves_no A B n c m d gs hs _ (hR.bel (by (repeat (first | exact Bel.refl _ | assumption | refine Bel.drew ?_ | refine Bel.drewN ?_ _ | refine Bel.alloc ?_ _ | refine Bel.setCell ?_ (by first | omega | (simp; done) | (simp; omega) | (simp at *; omega)) _ | refine Bel.trans ?_ (by assumption))))) (hS.bel (by (repeat (first | exact Bel.refl _ | assumption | refine Bel.drew ?_ | refine Bel.drewN ?_ _ | refine Bel.alloc ?_ _ | refine Bel.setCell ?_ (by first | omega | (simp; done) | (simp; omega) | (simp at *; omega)) _ | refine Bel.trans ?_ (by assumption))))) Hn.out Hm.out hmax hmax2 HF.out).mono ?_
    rintro e w4 ⟨rfl, hb4⟩
    generalize (finV gs hs).2 = fe at *
    go_wp2_with (go_at_call 24; refine (known_any _).mono ?_; rintro e w7 ⟨rfl, hb7⟩)
    go_ret
    exact ⟨rfl, by (repeat (first | exact Bel.refl _ | assumption | refine Bel.drew ?_ | refine Bel.drewN ?_ _ | refine Bel.alloc ?_ _ | refine Bel.setCell ?_ (by first | omega | (simp; done) | (simp; omega) | (simp at *; omega)) _ | refine Bel.trans ?_ (by assumption)))⟩
  · have HF := Lib.hid hf
    have HV := Lib.hid (finV_true hf).2.2
    clear hf
    go_wp2_with fail
    refine (wMoves_yes A B n c m d gs hs _ (hR.bel (by (repeat (first | exact Bel.refl _ | assumption | refine Bel.drew ?_ | refine Bel.drewN ?_ _ | refine Bel.alloc ?_ _ | refine Bel.setCell ?_ (by first | omega | (simp; done) | (simp; omega) | (simp at *; omega)) _ | refine Bel.trans ?_ (by assumption))))) (hS.bel (by (repeat (first | exact Bel.refl _ | assumption | refine Bel.drew ?_ | refine Bel.drewN ?_ _ | refine Bel.alloc ?_ _ | refine Bel.setCell ?_ (by first | omega | (simp; done) | (simp; omega) | (simp at *; omega)) _ | refine Bel.trans ?_ (by assumption))))) Hn.out Hm.out hmax hmax2 HF.out).mono ?_
    rintro e w4 ⟨A4, n4, c4, P, rfl, hn4, h12, hb4, htr, hC⟩
    have HN4 := Lib.hid hn4.symm; have HC := Lib.hid hC
    have hz : (finV gs hs).2 = 0 := by rw [HV.out]
    clear hn4 hC
    rw [hz]
    clear hz
    go_wp2_with fail
    refine (rCheck_any A B A4 n c m d n4 c4 gs hs P _ (hR.bel (by (repeat (first | exact Bel.refl _ | assumption | refine Bel.drew ?_ | refine Bel.drewN ?_ _ | refine Bel.alloc ?_ _ | refine Bel.setCell ?_ (by first | omega | (simp; done) | (simp; omega) | (simp at *; omega)) _ | refine Bel.trans ?_ (by assumption))))) (hS.bel (by (repeat (first | exact Bel.refl _ | assumption | refine Bel.drew ?_ | refine Bel.drewN ?_ _ | refine Bel.alloc ?_ _ | refine Bel.setCell ?_ (by first | omega | (simp; done) | (simp; omega) | (simp at *; omega)) _ | refine Bel.trans ?_ (by assumption))))) htr Hn.out Hm.out HN4.out hmax hmax2 (Nat.le_trans h12 HX12.out)).mono ?_
    rintro e w5 ⟨rfl, hb5⟩
    rw [HC.out]
    go_wp2_with (go_at_call 24; refine (known_any _).mono ?_; rintro e w7 ⟨rfl, hb7⟩)
    go_ret
    exact ⟨rfl, by (repeat (first | exact Bel.refl _ | assumption | refine Bel.drew ?_ | refine Bel.drewN ?_ _ | refine Bel.alloc ?_ _ | refine Bel.setCell ?_ (by first | omega | (simp; done) | (simp; omega) | (simp at *; omega)) _ | refine Bel.trans ?_ (by assumption)))⟩

set_option maxHeartbeats 400000 in
theorem walk (A : Option Addr) (n c : Nat) (zs : List (Int × Int)) (B : Option Addr) (m d : Nat) (ys : List (Int × Int)) (C : Option Addr) (l k : Nat) (xs : List (Int × Int × Int)) (w : World) (a : Arg2 w A n c zs) (b : Arg2 w B m d ys) (x : Arg3 w C l k xs) :
    Calls Try.prog 14 #[.slice A n c, .slice B m d, .slice C l k] w fun e w' => e = .returned (.bool true) ∧ Bel w w' := by
  obtain ⟨e1, e2, e3⟩ := a.els
  obtain ⟨f1, f2, f3⟩ := b.els
  obtain ⟨g1, g2, g3⟩ := x.els
  go_enter Try.func14, Try.ntmps14
  go_wp2_with fail
  refine (keepGrains_any A n c zs _ (a.prs.bel (by (repeat (first | exact Bel.refl _ | assumption | refine Bel.drew ?_ | refine Bel.drewN ?_ _ | refine Bel.alloc ?_ _ | refine Bel.setCell ?_ (by first | omega | (simp; done) | (simp; omega) | (simp at *; omega)) _ | refine Bel.trans ?_ (by assumption))))) a.len a.le a.nil a.reach).mono ?_
  rintro e w1 ⟨A', n', c', rfl, hn', hb1, hr1⟩
  have HN := Lib.hid hn'; clear hn'
  have hb01 : Bel w w1 := by (repeat (first | exact Bel.refl _ | assumption | refine Bel.drew ?_ | refine Bel.drewN ?_ _ | refine Bel.alloc ?_ _ | refine Bel.setCell ?_ (by first | omega | (simp; done) | (simp; omega) | (simp at *; omega)) _ | refine Bel.trans ?_ (by assumption)))
  go_wp2_with fail
  refine (keepGrains_any B m d ys _ (b.prs.bel hb01) b.len b.le b.nil b.reach).mono ?_
  rintro e w2 ⟨B', m', d', rfl, hm', hb2, hr2⟩
  have HM := Lib.hid hm'; clear hm'
  have hb02 : Bel w w2 := hb01.trans hb2
  go_wp2_with fail
  refine (keepMoves_any C l k xs _ (x.trs.bel hb02) x.len x.le x.nil x.reach).mono ?_
  rintro e w3 ⟨C', l', k', rfl, hl', hb3, hr3⟩
  have HL := Lib.hid hl'; clear hl'
  have hb03 : Bel w w3 := hb02.trans hb3
  go_wp2_with fail
  refine (inner A B C n c m d l k _ _ _ _ (e1.bel hb03) (f1.bel hb03) (g1.bel hb03) e2 f2 g2 g3).mono ?_
  rintro e w4 ⟨rfl, hb4⟩
  have hb34 := hb3.trans hb4
  have hb04 := hb03.trans hb4
  go_wp2_with fail
  refine (keptGrains_any A' A n' c' n c zs _ (hr1.bel (hb2.trans hb34)) (a.prs.bel hb04) HN.out.symm a.len a.le a.nil (reachN_le a.reach (by omega)).1).mono ?_
  rintro e w5 ⟨rfl, hb5⟩
  go_wp2_with fail
  refine (keptGrains_any B' B m' d' m d ys _ (hr2.bel (hb34.trans hb5)) (b.prs.bel (hb04.trans hb5)) HM.out.symm b.len b.le b.nil (reachN_le b.reach (by omega)).1).mono ?_
  rintro e w6 ⟨rfl, hb6⟩
  have hb46 := (hb4.trans hb5).trans hb6
  go_wp2_with fail
  refine (keptMoves_any C' C l' k' l k xs _ (hr3.bel hb46) (x.trs.bel (hb03.trans hb46)) HL.out.symm x.len x.le x.nil (reachN_le x.reach (by omega)).1).mono ?_
  rintro e w7 ⟨rfl, hb7⟩
  go_wp2
  go_ret
  exact ⟨rfl, (hb03.trans hb46).trans hb7⟩

set_option maxRecDepth 100000 in
theorem lifted (os : Os) (started : os.Started) (H : Type) (enc : TypeId × Value → H) :
    ReturnsInHanded {} Try.checked os 14 .any (Rows.washProvesSpec.pre6 enc Try.prog Try.f14 Rows.washProvesRow.domain false) (Rows.washProvesSpec.post enc Try.prog Try.f14 false true false false) := by
  refine returnsInHanded_of_change_sized (C := Try.checked) own started (by kernel_rfl) Try.func14
    (ChangeSpec.witness6 (enc := enc) (C := Try.checked) false ⟨#[], #[.slice none 0 0, .slice none 0 0, .slice none 0 0], []⟩ 8 (by kernel_rfl) (by kernel_rfl) (by kernel_rfl) (by kernel_rfl)) ?_
  intro W base args ds gs before hval0 hW hcnd hsz0 _
  have hval : ∀ (j : Nat) t v, Try.f14.params[j]? = some t → args[j]? = some v → Value.okWide Try.prog W .any base t v := hval0
  have hsz : (DataW.weightsEach Try.prog (Try.f14.params.toList ++ Rows.washProvesSpec.plain.varTypes Try.prog) (ds ++ gs)).all (· ≤ reachBytes) = true := hsz0
  have hW' := hW
  obtain ⟨p, q, hA0, hV, rfl, hfz, hnd⟩ := hW
  have hA : DataW.TrodAll enc Try.prog W 0 (fun _ => true) true Try.f14.params.toList args.toList ds p := hA0
  rw [Try.params14] at hA hval hsz
  obtain ⟨v0, vs0, d0, ds0, p0, q0, hargs, rfl, rfl, h0, r0⟩ := trodAll_cons hA
  obtain ⟨v1, vs1, d1, ds1, p1, q1, rfl, rfl, rfl, h1, r1⟩ := trodAll_cons r0
  obtain ⟨v2, vs2, d2, ds2, p2, q2, rfl, rfl, rfl, h2, r2⟩ := trodAll_cons r1
  obtain ⟨rfl, rfl, rfl⟩ := trodAll_nil r2
  obtain rfl : args = #[v0, v1, v2] := by cases args; simp_all
  obtain ⟨rfl, rfl⟩ := trodVars_none hV
  have k0 := h0
  have lt0 : ∀ x ∈ p0, x.block < W.heap.size := by obtain ⟨m, hm⟩ := k0; exact DataW.trod_lt m _ _ _ hm
  have k1 := h1
  have lt1 : ∀ x ∈ p1, x.block < W.heap.size := by obtain ⟨m, hm⟩ := k1; exact DataW.trod_lt m _ _ _ hm
  have k2 := h2
  have lt2 : ∀ x ∈ p2, x.block < W.heap.size := by obtain ⟨m, hm⟩ := k2; exact DataW.trod_lt m _ _ _ hm
  have hr0 : ∀ es sp, d0 = .slice es sp → (es.length + sp.length) * 16 ≤ reachN := by
    intro es sp hd
    have := sized_slice (elems := es) (spare := sp) hsz (j := 0) (t := 22) (e := 58) rfl (by rw [hd]; rfl) Try.underlying22
    rw [bytesGrain] at this
    exact this
  obtain ⟨A0, n0, c0, zs0, rfl, a0⟩ := open_arg2 (hval 0 22 v0 rfl rfl) h0 hr0
  have hr1 : ∀ es sp, d1 = .slice es sp → (es.length + sp.length) * 16 ≤ reachN := by
    intro es sp hd
    have := sized_slice (elems := es) (spare := sp) hsz (j := 1) (t := 22) (e := 58) rfl (by rw [hd]; rfl) Try.underlying22
    rw [bytesGrain] at this
    exact this
  obtain ⟨A1, n1, c1, zs1, rfl, a1⟩ := open_arg2 (hval 1 22 v1 rfl rfl) h1 hr1
  have hr2 : ∀ es sp, d2 = .slice es sp → (es.length + sp.length) * 24 ≤ reachN := by
    intro es sp hd
    have := sized_slice (elems := es) (spare := sp) hsz (j := 2) (t := 44) (e := 88) rfl (by rw [hd]; rfl) Try.underlying44
    rw [bytesMove] at this
    exact this
  obtain ⟨A2, n2, c2, zs2, rfl, a2⟩ := open_arg3 (hval 2 44 v2 rfl rfl) h2 hr2
  clear hA0 hval0
  refine (walk A0 n0 c0 zs0 A1 n1 c1 zs1 A2 n2 c2 zs2 W a0 a1 a2).mono fun e W' ⟨he, bel⟩ => ?_
  subst he
  exact ⟨_, rfl, _, _, _, [], _, [], hW', trodAll_mk1 (shut_bool Try.underlying4 _), trodAll_cons_mk (Below.trod laidOut (by kernel_rfl) (of_decide_eq_true (by kernel_rfl)) k0 bel lt0) (trodAll_cons_mk (Below.trod laidOut (by kernel_rfl) (of_decide_eq_true (by kernel_rfl)) k1 bel lt1) (trodAll_cons_mk (Below.trod laidOut (by kernel_rfl) (of_decide_eq_true (by kernel_rfl)) k2 bel lt2) (trodAll_mk0))), rfl, Below.frame bel _, fun h => by cases h⟩

theorem over : Rows.washProvesRow.holds Try.pinned (OpenSpec.ofChange Rows.washProvesSpec) :=
  OpenClaim.holds_of_wide 14 Try.f14 rfl rfl rfl rfl rfl rfl rfl ⟨rfl, rfl, rfl, rfl, rfl⟩ rfl rfl rfl rfl rfl (by kernel_rfl) Try.func14 (by kernel_rfl)
    (of_decide_eq_true (by kernel_rfl)) (by unfold Func.isWrapper; rw [if_neg (of_decide_eq_false (by kernel_rfl))]; exact ⟨rfl, rfl⟩)
    (fun os started H enc _ => lifted os started H enc)

/-- The statement. -/
theorem proved : Rows.WashProvesSaid := over
end Go.Proofs.Ytnlcndhbamcpdaa.washProves
