/-
  The statement WashWashesSaid: for all lots, times and depths Wash answers as the document says, the list stays as it was in its spare cells, too, and the known masses come out. No condition.
-/
import Derived.Test.YtnlcndhbamcpdaaY2
import Derived.Test.YtnlcndhbamcpdaaY3
namespace Go.Proofs.Ytnlcndhbamcpdaa.washWashes
open Go.ChangeShapes Go.WideShapes Go.ChangeAt Go.RowKit Go.Joins

theorem box2 {w : World} {x y : Int} {ty : TypeId} {w' : World} (h : Bel (w.alloc (.cells #[.int .i64 x, .int .i64 y] ty)) w') : w'.cell? ⟨w.heap.size, 0, none⟩ = some (.int .i64 x) ∧ w'.cell? ⟨w.heap.size, 1, none⟩ = some (.int .i64 y) := by
  refine ⟨?_, ?_⟩ <;> (rw [h.use.1 _ _ (by simp)]; go_simp)
theorem same_self (l : List (Int × Int)) : same l l = true := by simp [same]

set_option maxHeartbeats 1000000 in
theorem inner (A : Option Addr) (n c : Nat) (gs : List (Int × Int)) (t d T : Int) (w : World) (hR : Prs w A gs) (hn : gs.length = n) :
    Calls Try.prog 26 #[.slice A n c, .agg #[.int .i64 t, .int .i64 d], .int .i64 T] w fun e w' => e = .returned (.bool true) ∧ Bel w w' := by
  by_cases h40 : 40 < n
  · have hd : decide (40 < n) = true := by simpa using h40
    go_enter Try.func26, Try.ntmps26
    go_wp2_with (first | (go_at_call 41; refine (long_any _ _ _ _).mono ?_; rintro e w' ⟨rfl, rfl⟩) | (go_at_call 24; refine (known_any _).mono ?_; rintro e w7 ⟨rfl, hb7⟩))
    go_ret
    exact ⟨rfl, by (repeat (first | exact Bel.refl _ | assumption | refine Bel.drew ?_ | refine Bel.drewN ?_ _ | refine Bel.alloc ?_ _ | refine Bel.setCell ?_ (by first | omega | (simp; done) | (simp; omega) | (simp at *; omega)) _ | refine Bel.trans ?_ (by assumption)))⟩
  have hd : decide (40 < n) = false := by simpa using h40
  have hmax : n ≤ maxLen := by unfold maxLen; omega
  by_cases hok : errV gs = 0 ∧ (within t 0 100 && within d 1 20 && within T 1 4) = true
  · obtain ⟨he, hg⟩ := hok
    simp only [Bool.and_eq_true] at hg
    obtain ⟨⟨g1, g2⟩, g3⟩ := hg
    obtain ⟨T1, T2⟩ := within_iff.1 g3
    obtain ⟨T, rfl⟩ := Int.eq_ofNat_of_zero_le (by omega : 0 ≤ T)
    generalize hL : restL (stayN t d T (pot gs)) = L
    have hl : L.length = n := by rw [← hL, washL_eq (fit_of gs he) (within_iff.1 g1).1 (within_iff.1 g2).1, List.length_map, hn]
    have HL := Lib.hid hL; clear hL
    have Hl := Lib.hid hl; clear hl
    have Hn := Lib.hid hn; clear hn
    have HE := Lib.hid he; clear he
    go_enter Try.func26, Try.ntmps26
    go_wp2_with (go_at_call 41; refine (long_any _ _ _ _).mono ?_; rintro e w' ⟨rfl, rfl⟩)
    refine (rWash_ok A n c gs t d T _ (hR.bel (by (repeat (first | exact Bel.refl _ | assumption | refine Bel.drew ?_ | refine Bel.drewN ?_ _ | refine Bel.alloc ?_ _ | refine Bel.setCell ?_ (by first | omega | (simp; done) | (simp; omega) | (simp at *; omega)) _ | refine Bel.trans ?_ (by assumption))))) Hn.out HE.out g1 g2 (by omega) (by omega)).mono ?_
    rintro e w1 ⟨A1, n1, c1, rfl, hn1, hb1, hp1⟩
    rw [HL.out] at hn1 hp1
    obtain rfl : n1 = n := by rw [hn1]; exact Hl.out
    clear hn1
    obtain ⟨b1, b2⟩ := box2 hb1
    go_wp2_with fail
    refine (wash_ok A n1 c gs t d T _ (hR.bel (by (repeat (first | exact Bel.refl _ | assumption | refine Bel.drew ?_ | refine Bel.drewN ?_ _ | refine Bel.alloc ?_ _ | refine Bel.setCell ?_ (by first | omega | (simp; done) | (simp; omega) | (simp at *; omega)) _ | refine Bel.trans ?_ (by assumption))))) Hn.out HE.out g1 g2 (by omega) (by omega)).mono ?_
    rintro e w2 ⟨g, rfl, hg, hb2, hr1⟩
    rw [HL.out] at hr1
    clear b1 b2
    have hq1 : Prs w2 (some ⟨g, 0, none⟩) L := Row.prs (m := n1 * 2) (by rw [Hl.out]; exact hr1)
    go_wp2_with fail
    refine (sameRats_any _ _ n1 n1 n1 c1 _ _ _ hq1 (hp1.bel hb2) Hl.out Hl.out hmax hmax).mono ?_
    rintro e w3 ⟨rfl, hb3⟩
    rw [same_self]
    go_wp2_with (go_at_call 24; refine (known_any _).mono ?_; rintro e w7 ⟨rfl, hb7⟩)
    go_ret
    exact ⟨rfl, by (repeat (first | exact Bel.refl _ | assumption | refine Bel.drew ?_ | refine Bel.drewN ?_ _ | refine Bel.alloc ?_ _ | refine Bel.setCell ?_ (by first | omega | (simp; done) | (simp; omega) | (simp at *; omega)) _ | refine Bel.trans ?_ (by assumption)))⟩
  · obtain ⟨x, hx, hx0⟩ : ∃ x, ((errV gs = x ∧ x ≠ 0) ∨ (errV gs = 0 ∧ (within t 0 100 && within d 1 20 && within T 1 4) = false ∧ x = 1)) ∧ x ≠ 0 := by
      by_cases he : errV gs = 0
      · refine ⟨1, .inr ⟨he, ?_, rfl⟩, by omega⟩
        cases hw : (within t 0 100 && within d 1 20 && within T 1 4)
        · rfl
        · exact absurd ⟨he, hw⟩ hok
      · exact ⟨_, .inl ⟨rfl, he⟩, he⟩
    have HX := Lib.hid hx; clear hx hok
    have hne : (x != 0) = true := by simpa using hx0
    go_enter Try.func26, Try.ntmps26
    go_wp2_with (go_at_call 41; refine (long_any _ _ _ _).mono ?_; rintro e w' ⟨rfl, rfl⟩)
    refine (rWash_err A n c gs t d T _ (hR.bel (by (repeat (first | exact Bel.refl _ | assumption | refine Bel.drew ?_ | refine Bel.drewN ?_ _ | refine Bel.alloc ?_ _ | refine Bel.setCell ?_ (by first | omega | (simp; done) | (simp; omega) | (simp at *; omega)) _ | refine Bel.trans ?_ (by assumption))))) hn hmax x HX.out).mono ?_
    rintro e w1 ⟨rfl, hb1⟩
    obtain ⟨b1, b2⟩ := box2 hb1
    go_wp2_with fail
    refine (wash_err A n c gs t d T _ (hR.bel (by (repeat (first | exact Bel.refl _ | assumption | refine Bel.drew ?_ | refine Bel.drewN ?_ _ | refine Bel.alloc ?_ _ | refine Bel.setCell ?_ (by first | omega | (simp; done) | (simp; omega) | (simp at *; omega)) _ | refine Bel.trans ?_ (by assumption))))) hn hmax x HX.out).mono ?_
    rintro e w2 ⟨rfl, hb2⟩
    go_wp2_with fail
    refine (sameRats_any none none 0 0 0 0 [] [] _ (.inl rfl) (.inl rfl) rfl rfl (by decide) (by decide)).mono ?_
    rintro e w3 ⟨rfl, hb3⟩
    rw [same_self]
    go_wp2_with (go_at_call 24; refine (known_any _).mono ?_; rintro e w7 ⟨rfl, hb7⟩)
    go_ret
    exact ⟨rfl, by (repeat (first | exact Bel.refl _ | assumption | refine Bel.drew ?_ | refine Bel.drewN ?_ _ | refine Bel.alloc ?_ _ | refine Bel.setCell ?_ (by first | omega | (simp; done) | (simp; omega) | (simp at *; omega)) _ | refine Bel.trans ?_ (by assumption)))⟩

set_option maxHeartbeats 400000 in
theorem walk (A : Option Addr) (n c : Nat) (zs : List (Int × Int)) (t d T : Int) (w : World) (a : Arg2 w A n c zs) :
    Calls Try.prog 7 #[.slice A n c, .agg #[.int .i64 t, .int .i64 d], .int .i64 T] w fun e w' => e = .returned (.bool true) ∧ Bel w w' := by
  obtain ⟨e1, e2, e3⟩ := a.els
  have hcm := (reachN_le a.reach (by omega)).2
  go_enter Try.func7, Try.ntmps7
  go_wp2_with fail
  refine (keepGrains_any A n c zs _ (a.prs.bel (by (repeat (first | exact Bel.refl _ | assumption | refine Bel.drew ?_ | refine Bel.drewN ?_ _ | refine Bel.alloc ?_ _ | refine Bel.setCell ?_ (by first | omega | (simp; done) | (simp; omega) | (simp at *; omega)) _ | refine Bel.trans ?_ (by assumption))))) a.len a.le a.nil a.reach).mono ?_
  rintro e w1 ⟨A', n', c', rfl, hn', hb1, hr1⟩
  have HN := Lib.hid hn'; clear hn'
  have hb01 : Bel w w1 := by (repeat (first | exact Bel.refl _ | assumption | refine Bel.drew ?_ | refine Bel.drewN ?_ _ | refine Bel.alloc ?_ _ | refine Bel.setCell ?_ (by first | omega | (simp; done) | (simp; omega) | (simp at *; omega)) _ | refine Bel.trans ?_ (by assumption)))
  have hbox : Bel (w.alloc (.cells #[.int .i64 t, .int .i64 d] 27)) w1 := by (repeat (first | exact Bel.refl _ | assumption | refine Bel.drew ?_ | refine Bel.drewN ?_ _ | refine Bel.alloc ?_ _ | refine Bel.setCell ?_ (by first | omega | (simp; done) | (simp; omega) | (simp at *; omega)) _ | refine Bel.trans ?_ (by assumption)))
  obtain ⟨b1, b2⟩ := box2 hbox
  go_wp2_with fail
  refine (inner A n c _ t d T _ (e1.bel hb01) e2 ).mono ?_
  rintro e w2 ⟨rfl, hb2⟩
  have hb12 : Bel w1 w2 := by (repeat (first | exact Bel.refl _ | assumption | refine Bel.drew ?_ | refine Bel.drewN ?_ _ | refine Bel.alloc ?_ _ | refine Bel.setCell ?_ (by first | omega | (simp; done) | (simp; omega) | (simp at *; omega)) _ | refine Bel.trans ?_ (by assumption)))
  go_wp2_with fail
  refine (keptGrains_any A' A n' c' n c zs _ (hr1.bel hb12) (a.prs.bel (hb01.trans hb12)) HN.out.symm a.len a.le a.nil (reachN_le a.reach (by omega)).1).mono ?_
  rintro e w3 ⟨rfl, hb3⟩
  go_wp2
  go_ret
  exact ⟨rfl, (hb01.trans hb12).trans hb3⟩

set_option maxRecDepth 100000 in
theorem lifted (os : Os) (started : os.Started) (H : Type) (enc : TypeId × Value → H) :
    ReturnsInHanded {} Try.checked os 7 .any (Rows.washWashesSpec.pre6 enc Try.prog Try.f7 Rows.washWashesRow.domain false) (Rows.washWashesSpec.post enc Try.prog Try.f7 false true false false) := by
  refine returnsInHanded_of_change_sized (C := Try.checked) own started (by kernel_rfl) Try.func7
    (ChangeSpec.witness6 (enc := enc) (C := Try.checked) false ⟨#[], #[.slice none 0 0, .agg #[.int .i64 0, .int .i64 0], .int .i64 0], []⟩ 8 (by kernel_rfl) (by kernel_rfl) (by kernel_rfl) (by kernel_rfl)) ?_
  intro W base args ds gs before hval0 hW hcnd hsz0 _
  have hval : ∀ (j : Nat) t v, Try.f7.params[j]? = some t → args[j]? = some v → Value.okWide Try.prog W .any base t v := hval0
  have hsz : (DataW.weightsEach Try.prog (Try.f7.params.toList ++ Rows.washWashesSpec.plain.varTypes Try.prog) (ds ++ gs)).all (· ≤ reachBytes) = true := hsz0
  have hW' := hW
  obtain ⟨p, q, hA0, hV, rfl, hfz, hnd⟩ := hW
  have hA : DataW.TrodAll enc Try.prog W 0 (fun _ => true) true Try.f7.params.toList args.toList ds p := hA0
  rw [Try.params7] at hA hval hsz
  obtain ⟨v0, vs0, d0, ds0, p0, q0, hargs, rfl, rfl, h0, r0⟩ := trodAll_cons hA
  obtain ⟨v1, vs1, d1, ds1, p1, q1, rfl, rfl, rfl, h1, r1⟩ := trodAll_cons r0
  obtain ⟨v2, vs2, d2, ds2, p2, q2, rfl, rfl, rfl, h2, r2⟩ := trodAll_cons r1
  obtain ⟨rfl, rfl, rfl⟩ := trodAll_nil r2
  obtain rfl : args = #[v0, v1, v2] := by cases args; simp_all
  obtain ⟨rfl, rfl⟩ := trodVars_none hV
  have k0 := h0
  have lt0 : ∀ x ∈ p0, x.block < W.heap.size := by obtain ⟨m, hm⟩ := k0; exact DataW.trod_lt m _ _ _ hm
  have k1 := h1
  have lt1 : ∀ x ∈ p1, x.block < W.heap.size := by obtain ⟨m, hm⟩ := k1; exact DataW.trod_lt m _ _ _ hm
  have k2 := h2
  have lt2 : ∀ x ∈ p2, x.block < W.heap.size := by obtain ⟨m, hm⟩ := k2; exact DataW.trod_lt m _ _ _ hm
  have hr0 : ∀ es sp, d0 = .slice es sp → (es.length + sp.length) * 16 ≤ reachN := by
    intro es sp hd
    have := sized_slice (elems := es) (spare := sp) hsz (j := 0) (t := 22) (e := 58) rfl (by rw [hd]; rfl) Try.underlying22
    rw [bytesGrain] at this
    exact this
  obtain ⟨A0, n0, c0, zs0, rfl, a0⟩ := open_arg2 (hval 0 22 v0 rfl rfl) h0 hr0
  obtain ⟨x1, y1, rfl⟩ : ∃ x y : Int, v1 = .agg #[.int .i64 x, .int .i64 y] := by
    obtain ⟨c0, c1, y0, y1, m, rfl, -, -, hy0, hy1⟩ := open_agg2 Try.underlying27 (by kernel_rfl) cellsPot (hval 1 27 v1 rfl rfl) h1
    obtain ⟨a, e0, -, -⟩ := DataW.trod_int Try.underlying3 hy0
    obtain ⟨b, e1, -, -⟩ := DataW.trod_int Try.underlying3 hy1
    simp at e0 e1
    subst e0 e1
    exact ⟨a, b, rfl⟩
  obtain ⟨x2, rfl, rfl, rfl, w2⟩ := open_int Try.underlying3 (hval 2 3 v2 rfl rfl) h2
  clear hA0 hval0
  refine (walk A0 n0 c0 zs0 x1 y1 x2 W a0).mono fun e W' ⟨he, bel⟩ => ?_
  subst he
  exact ⟨_, rfl, _, _, _, [], _, [], hW', trodAll_mk1 (shut_bool Try.underlying4 _), trodAll_cons_mk (Below.trod laidOut (by kernel_rfl) (of_decide_eq_true (by kernel_rfl)) k0 bel lt0) (trodAll_cons_mk (Below.trod laidOut (by kernel_rfl) (of_decide_eq_true (by kernel_rfl)) k1 bel lt1) (trodAll_cons_mk (shut_int Try.underlying3 w2) (trodAll_mk0))), rfl, Below.frame bel _, fun h => by cases h⟩

theorem over : Rows.washWashesRow.holds Try.pinned (OpenSpec.ofChange Rows.washWashesSpec) :=
  OpenClaim.holds_of_wide 7 Try.f7 rfl rfl rfl rfl rfl rfl rfl ⟨rfl, rfl, rfl, rfl, rfl⟩ rfl rfl rfl rfl rfl (by kernel_rfl) Try.func7 (by kernel_rfl)
    (of_decide_eq_true (by kernel_rfl)) (by unfold Func.isWrapper; rw [if_neg (of_decide_eq_false (by kernel_rfl))]; exact ⟨rfl, rfl⟩)
    (fun os started H enc _ => lifted os started H enc)

/-- The statement. -/
theorem proved : Rows.WashWashesSaid := over
end Go.Proofs.Ytnlcndhbamcpdaa.washWashes
