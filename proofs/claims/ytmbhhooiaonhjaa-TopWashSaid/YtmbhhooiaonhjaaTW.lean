/-
  The statement TopWashSaid: for any lots, pot and moves what sinks and what stays is all; more settlings leave no more above; a lot is finer exactly if moves lead to it, with the work that its sums tell; the lists stay as they were in their spare cells, too. No condition.
-/
import Derived.Test.YtmbhhooiaonhjaaTWA
import Derived.Test.YtmbhhooiaonhjaaTWB
import Derived.Test.YtmbhhooiaonhjaaTWC
import Derived.Test.YtmbhhooiaonhjaaTWD
namespace Go.Proofs.Ytmbhhooiaonhjaa.topWash
open Go.ChangeShapes Go.WideShapes Go.ChangeAt Go.RowKit Go.Joins

theorem inner (A B C : Option Addr) (n c m e l k : Nat) (gs hs : List (Int × Int)) (ms : List (Int × Int × Int)) (t d T : Int) (w : World) (hR : Prs w A gs) (hS : Prs w B hs) (hV : Trs w C ms) (hn : gs.length = n) (hm : hs.length = m) (hl : ms.length = l) (hl9 : l ≤ maxLen) :
    Calls Try.prog 13 #[.agg #[.slice A n c, .slice B m e, .slice C l k], .agg #[.int .i64 t, .int .i64 d], .int .i64 T] w fun e w' => e = .returned (.bool true) ∧ Bel w w' := by
  by_cases h40 : 40 < n
  · exact long1 A B C n c m e l k gs hs ms t d T w hR hS hV h40
  by_cases h41 : 40 < m
  · exact long2 A B C n c m e l k gs hs ms t d T w hR hS hV h40 h41
  by_cases h60 : 60 < l
  · exact long3 A B C n c m e l k gs hs ms t d T w hR hS hV h40 h41 h60 hl9
  by_cases he : errV gs = 0
  · cases g1 : within t 0 100
    · exact main3 A B C n c m e l k gs hs ms t d T w hR hS hV hn hm hl h40 h41 h60 he (by rw [g1]; rfl)
    · cases g2 : within d 1 20
      · exact main3 A B C n c m e l k gs hs ms t d T w hR hS hV hn hm hl h40 h41 h60 he (by rw [g1, g2]; rfl)
      · cases g3 : within T 1 4
        · exact main2 A B C n c m e l k gs hs ms t d T w hR hS hV hn hm hl h40 h41 h60 he g1 g2 g3
        · obtain ⟨T1, T2⟩ := within_iff.1 g3
          obtain ⟨j, rfl⟩ : ∃ j : Nat, T = ((j + 1 : Nat) : Int) := ⟨(T - 1).toNat, by omega⟩
          exact main1 A B C n c m e l k gs hs ms t d j w hR hS hV hn hm hl h40 h41 h60 he g1 g2 (by omega)
  · exact bad A B C n c m e l k gs hs ms t d T w hR hS hV hn hm hl h40 h41 h60 he

set_option maxRecDepth 100000 in
set_option maxHeartbeats 2000000 in
theorem walk (A : Option Addr) (n c : Nat) (zs : List (Int × Int)) (B : Option Addr) (m e : Nat) (ys : List (Int × Int)) (C : Option Addr) (l k : Nat) (ms : List (Int × Int × Int)) (t d T : Int) (w : World) (aL : Arg2 w A n c zs) (aM : Arg2 w B m e ys) (aV : Arg3 w C l k ms) :
    Calls Try.prog 5 #[.agg #[.slice A n c, .slice B m e, .slice C l k], .agg #[.int .i64 t, .int .i64 d], .int .i64 T] w fun e w' => e = .returned (.bool true) ∧ Bel w w' := by
  have Held := Lib.hid (fun w' h => boxes1 (w := w) (v0 := .slice A n c) (v1 := .slice B m e) (v2 := .slice C l k) (t := t) (d := d) (ty := 34) (ty' := 30) (w' := w') h)
  obtain ⟨e1, e2, e3⟩ := aL.els
  obtain ⟨f1, f2, f3⟩ := aM.els
  obtain ⟨i1, i2, i3⟩ := aV.els
  go_enter Try.func5, Try.ntmps5
  go_wp2_with fail
  refine (keepGrains_any A n c zs _ (aL.prs.bel (by (repeat (first | exact Bel.refl _ | assumption | refine Bel.drew ?_ | refine Bel.drewN ?_ _ | refine Bel.alloc ?_ _ | refine Bel.setCell ?_ (by first | omega | (simp; done) | (simp; omega) | (simp at *; omega)) _ | refine Bel.trans ?_ (by assumption))))) aL.len aL.le aL.nil aL.reach).mono ?_
  rintro e w1 ⟨A1, n1, c1, rfl, hn1, hb1, hr1⟩
  have HN1 := Lib.hid hn1; clear hn1
  have hb01 : Bel w w1 := by (repeat (first | exact Bel.refl _ | assumption | refine Bel.drew ?_ | refine Bel.drewN ?_ _ | refine Bel.alloc ?_ _ | refine Bel.setCell ?_ (by first | omega | (simp; done) | (simp; omega) | (simp at *; omega)) _ | refine Bel.trans ?_ (by assumption)))
  have held1 : ∀ w', Bel w1 w' → w'.cell? ⟨w.heap.size, 0, none⟩ = some (.slice A n c) ∧ w'.cell? ⟨w.heap.size, 1, none⟩ = some (.slice B m e) ∧ w'.cell? ⟨w.heap.size, 2, none⟩ = some (.slice C l k) ∧ w'.cell? ⟨w.heap.size + 1, 0, none⟩ = some (.int .i64 t) ∧ w'.cell? ⟨w.heap.size + 1, 1, none⟩ = some (.int .i64 d) := fun w' h => Held.out w' (hb1.trans h)
  have Held1 := Lib.hid held1
  clear held1
  obtain ⟨q0, q1, q2, q3, q4⟩ := Held1.out w1 (Bel.refl _)
  go_wp2_with fail
  refine (keepGrains_any B m e ys _ (aM.prs.bel hb01) aM.len aM.le aM.nil aM.reach).mono ?_
  rintro e w2 ⟨A2, n2, c2, rfl, hn2, hb2, hr2⟩
  have HN2 := Lib.hid hn2; clear hn2
  clear q0 q1 q2 q3 q4
  obtain ⟨q0, q1, q2, q3, q4⟩ := Held1.out w2 hb2
  have hb02 := hb01.trans hb2
  go_wp2_with fail
  refine (keepMoves_any C l k ms _ (aV.trs.bel hb02) aV.len aV.le aV.nil aV.reach).mono ?_
  rintro e w3 ⟨A3, n3, c3, rfl, hn3, hb3, hr3⟩
  have HN3 := Lib.hid hn3; clear hn3
  clear q0 q1 q2 q3 q4
  have hb13 := hb2.trans hb3
  obtain ⟨q0, q1, q2, q3, q4⟩ := Held1.out w3 hb13
  have hb03 := hb02.trans hb3
  go_wp2_with fail
  refine (inner A B C n c m e l k _ _ _ t d T _ (e1.bel hb03) (f1.bel hb03) (i1.bel hb03) e2 f2 i2 i3).mono ?_
  rintro e w4 ⟨rfl, hb4⟩
  clear q0 q1 q2 q3 q4
  have hb14 := hb13.trans hb4
  obtain ⟨q0, q1, q2, q3, q4⟩ := Held1.out w4 hb14
  have hb04 := hb03.trans hb4
  go_wp2_with fail
  refine (keptGrains_any A1 A n1 c1 n c zs _ (hr1.bel hb14) (aL.prs.bel hb04) HN1.out.symm aL.len aL.le aL.nil (reachN_le aL.reach (by omega)).1).mono ?_
  rintro e w5 ⟨rfl, hb5⟩
  clear q0 q1 q2 q3 q4
  have hb15 := hb14.trans hb5
  obtain ⟨q0, q1, q2, q3, q4⟩ := Held1.out w5 hb15
  have hb05 := hb04.trans hb5
  go_wp2_with fail
  refine (keptGrains_any A2 B n2 c2 m e ys _ (hr2.bel ((hb3.trans hb4).trans hb5)) (aM.prs.bel hb05) HN2.out.symm aM.len aM.le aM.nil (reachN_le aM.reach (by omega)).1).mono ?_
  rintro e w6 ⟨rfl, hb6⟩
  clear q0 q1 q2 q3 q4
  have hb16 := hb15.trans hb6
  obtain ⟨q0, q1, q2, q3, q4⟩ := Held1.out w6 hb16
  have hb06 := hb05.trans hb6
  go_wp2_with fail
  refine (keptMoves_any A3 C n3 c3 l k ms _ (hr3.bel ((hb4.trans hb5).trans hb6)) (aV.trs.bel hb06) HN3.out.symm aV.len aV.le aV.nil (reachN_le aV.reach (by omega)).1).mono ?_
  rintro e w7 ⟨rfl, hb7⟩
  go_wp2
  go_ret
  exact ⟨rfl, hb06.trans hb7⟩

set_option maxRecDepth 100000 in
theorem lifted (os : Os) (started : os.Started) (H : Type) (enc : TypeId × Value → H) :
    ReturnsInHanded {} Try.checked os 5 .any (Rows.topWashSpec.pre6 enc Try.prog Try.f5 Rows.topWashRow.domain false) (Rows.topWashSpec.post enc Try.prog Try.f5 false true false false) := by
  refine returnsInHanded_of_change_sized (C := Try.checked) own started (by kernel_rfl) Try.func5
    (ChangeSpec.witness6 (enc := enc) (C := Try.checked) false ⟨#[], #[.agg #[.slice none 0 0, .slice none 0 0, .slice none 0 0], .agg #[.int .i64 0, .int .i64 0], .int .i64 0], []⟩ 8 (by kernel_rfl) (by kernel_rfl) (by kernel_rfl) (by kernel_rfl)) ?_
  intro W base args ds gs before hval0 hW hcnd hsz0 _
  have hval : ∀ (j : Nat) t v, Try.f5.params[j]? = some t → args[j]? = some v → Value.okWide Try.prog W .any base t v := hval0
  have hsz : (DataW.weightsEach Try.prog (Try.f5.params.toList ++ Rows.topWashSpec.plain.varTypes Try.prog) (ds ++ gs)).all (· ≤ reachBytes) = true := hsz0
  have hW' := hW
  obtain ⟨p, q, hA0, hV, rfl, hfz, hnd⟩ := hW
  have hA : DataW.TrodAll enc Try.prog W 0 (fun _ => true) true Try.f5.params.toList args.toList ds p := hA0
  rw [Try.params5] at hA hval hsz
  obtain ⟨v0, vs0, d0, ds0, p0, q0, hargs, rfl, rfl, h0, r0⟩ := trodAll_cons hA
  obtain ⟨v1, vs1, d1, ds1, p1, q1, rfl, rfl, rfl, h1, r1⟩ := trodAll_cons r0
  obtain ⟨v2, vs2, d2, ds2, p2, q2, rfl, rfl, rfl, h2, r2⟩ := trodAll_cons r1
  obtain ⟨rfl, rfl, rfl⟩ := trodAll_nil r2
  obtain rfl : args = #[v0, v1, v2] := by cases args; simp_all
  obtain ⟨rfl, rfl⟩ := trodVars_none hV
  have k0 := h0
  have lt0 : ∀ x ∈ p0, x.block < W.heap.size := by obtain ⟨m, hm⟩ := k0; exact DataW.trod_lt m _ _ _ hm
  have k1 := h1
  have lt1 : ∀ x ∈ p1, x.block < W.heap.size := by obtain ⟨m, hm⟩ := k1; exact DataW.trod_lt m _ _ _ hm
  have k2 := h2
  have lt2 : ∀ x ∈ p2, x.block < W.heap.size := by obtain ⟨m, hm⟩ := k2; exact DataW.trod_lt m _ _ _ hm
  have hr0 : ∀ k ∈ d0.weights Try.prog 34, k ≤ reachN := fun k hk => by rw [← reach_eq]; simpa using List.all_eq_true.1 hsz k (DataW.weights_mem_each (j := 0) rfl rfl k hk)
  obtain ⟨A, n, c, zs, B, m, d, ys, C, k, g, ms, rfl, aL, aM, aV⟩ := open_lots (hval 0 34 v0 rfl rfl) h0 hr0
  obtain ⟨x1, y1, rfl⟩ : ∃ x y : Int, v1 = .agg #[.int .i64 x, .int .i64 y] := by
    obtain ⟨c0, c1, y0, y1, m, rfl, -, -, hy0, hy1⟩ := open_agg2 Try.underlying30 (by kernel_rfl) cellsPot (hval 1 30 v1 rfl rfl) h1
    obtain ⟨a, e0, -, -⟩ := DataW.trod_int Try.underlying3 hy0
    obtain ⟨b, e1, -, -⟩ := DataW.trod_int Try.underlying3 hy1
    simp at e0 e1
    subst e0 e1
    exact ⟨a, b, rfl⟩
  obtain ⟨x2, rfl, rfl, rfl, w2⟩ := open_int Try.underlying3 (hval 2 3 v2 rfl rfl) h2
  clear hA0 hval0
  refine (walk A n c zs B m d ys C k g ms x1 y1 x2 W aL aM aV).mono fun e W' ⟨he, bel⟩ => ?_
  subst he
  exact ⟨_, rfl, _, _, _, [], _, [], hW', trodAll_mk1 (shut_bool Try.underlying4 _), trodAll_cons_mk (Below.trod laidOut (by kernel_rfl) (of_decide_eq_true (by kernel_rfl)) k0 bel lt0) (trodAll_cons_mk (Below.trod laidOut (by kernel_rfl) (of_decide_eq_true (by kernel_rfl)) k1 bel lt1) (trodAll_cons_mk (shut_int Try.underlying3 w2) (trodAll_mk0))), rfl, Below.frame bel _, fun h => by cases h⟩

theorem over : Rows.topWashRow.holds Try.pinned (OpenSpec.ofChange Rows.topWashSpec) :=
  OpenClaim.holds_of_wide 5 Try.f5 rfl rfl rfl rfl rfl rfl rfl ⟨rfl, rfl, rfl, rfl, rfl⟩ rfl rfl rfl rfl rfl (by kernel_rfl) Try.func5 (by kernel_rfl)
    (of_decide_eq_true (by kernel_rfl)) (by unfold Func.isWrapper; rw [if_neg (of_decide_eq_false (by kernel_rfl))]; exact ⟨rfl, rfl⟩)
    (fun os started H enc _ => lifted os started H enc)

/-- The statement. -/
theorem proved : Rows.TopWashSaid := over
end Go.Proofs.Ytmbhhooiaonhjaa.topWash
