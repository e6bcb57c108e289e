/-
  The statement WashSettlesSaid: for all lots, times and depths Settle answers as the document says, what sinks and what stays adds up to the lot, the list stays as it was in its spare cells, too, and the known masses come out. No condition.
-/
import Derived.Test.YtnlcndhbamcpdaaY2
import Derived.Deep.RegionHeld3
namespace Go.Proofs.Ytnlcndhbamcpdaa.washSettles
open Go.ChangeShapes Go.WideShapes Go.ChangeAt Go.RowKit Go.Joins

theorem box2 {w : World} {x y : Int} {ty : TypeId} {w' : World} (h : Bel (w.alloc (.cells #[.int .i64 x, .int .i64 y] ty)) w') : w'.cell? ⟨w.heap.size, 0, none⟩ = some (.int .i64 x) ∧ w'.cell? ⟨w.heap.size, 1, none⟩ = some (.int .i64 y) := by
  refine ⟨?_, ?_⟩ <;> (rw [h.use.1 _ _ (by simp)]; go_simp)
theorem same_self (l : List (Int × Int)) : same l l = true := by simp [same]

set_option maxRecDepth 100000 in
set_option maxHeartbeats 4000000 in
theorem inner (A : Option Addr) (n c : Nat) (gs : List (Int × Int)) (t d : Int) (w : World) (hR : Prs w A gs) (hn : gs.length = n) :
    Calls Try.prog 25 #[.slice A n c, .agg #[.int .i64 t, .int .i64 d]] w fun e w' => e = .returned (.bool true) ∧ Bel w w' := by
  by_cases h40 : 40 < n
  · have hd : decide (40 < n) = true := by simpa using h40
    go_enter Try.func25, Try.ntmps25
    go_wp2_with (first | (go_at_call 41; refine (long_any _ _ _ _).mono ?_; rintro e w' ⟨rfl, rfl⟩) | (go_at_call 24; refine (known_any _).mono ?_; rintro e w7 ⟨rfl, hb7⟩))
    go_ret
    exact ⟨rfl, by (repeat (first | exact Bel.refl _ | assumption | refine Bel.drew ?_ | refine Bel.drewN ?_ _ | refine Bel.alloc ?_ _ | refine Bel.setCell ?_ (by first | omega | (simp; done) | (simp; omega) | (simp at *; omega)) _ | refine Bel.trans ?_ (by assumption)))⟩
  have hd : decide (40 < n) = false := by simpa using h40
  have hmax : n ≤ maxLen := by unfold maxLen; omega
  by_cases hok : errV gs = 0 ∧ (within t 0 100 && within d 1 20) = true
  · obtain ⟨he, hg⟩ := hok
    simp only [Bool.and_eq_true] at hg
    obtain ⟨g1, g2⟩ := hg
    obtain ⟨t1, t2⟩ := within_iff.1 g1
    obtain ⟨d1, d2⟩ := within_iff.1 g2
    have hf := fit_of gs he
    have Hs1 := Lib.hid (sunkL_eq hf t1 d1)
    have Hs2 := Lib.hid (stayL_eq hf t1 d1)
    have hl1 : (sunkL gs t d).length = n := by rw [Hs1.out, List.length_map, hn]
    have hl2 : (stayL gs t d).length = n := by rw [Hs2.out, List.length_map, hn]
    have HL1 := Lib.hid hl1; clear hl1
    have HL2 := Lib.hid hl2; clear hl2
    have Hn := Lib.hid hn; clear hn
    have HE := Lib.hid he; clear he
    go_enter Try.func25, Try.ntmps25
    go_wp2_with (go_at_call 41; refine (long_any _ _ _ _).mono ?_; rintro e w' ⟨rfl, rfl⟩)
    refine (rSettle_ok A n c gs t d _ (hR.bel (by (repeat (first | exact Bel.refl _ | assumption | refine Bel.drew ?_ | refine Bel.drewN ?_ _ | refine Bel.alloc ?_ _ | refine Bel.setCell ?_ (by first | omega | (simp; done) | (simp; omega) | (simp at *; omega)) _ | refine Bel.trans ?_ (by assumption))))) Hn.out HE.out g1 g2).mono ?_
    rintro e w1 ⟨A1, n1, c1, B1, m1, e1, rfl, hn1, hm1, hb1, hp1, hp2⟩
    obtain rfl : n1 = n := by rw [hn1]; exact HL1.out
    obtain rfl : m1 = n1 := by rw [hm1]; exact HL2.out
    clear hn1 hm1
    obtain ⟨b1, b2⟩ := box2 hb1
    go_wp2_with fail
    refine (settle_ok A m1 c gs t d _ (hR.bel (by (repeat (first | exact Bel.refl _ | assumption | refine Bel.drew ?_ | refine Bel.drewN ?_ _ | refine Bel.alloc ?_ _ | refine Bel.setCell ?_ (by first | omega | (simp; done) | (simp; omega) | (simp at *; omega)) _ | refine Bel.trans ?_ (by assumption))))) Hn.out HE.out g1 g2).mono ?_
    rintro e w2 ⟨g, g', rfl, hg, hg', hb2, hr1, hr2⟩
    clear b1 b2
    have hq1 : Prs w2 (some ⟨g, 0, none⟩) (sunkL gs t d) := Row.prs (m := m1 * 2) (by rw [HL1.out]; exact hr1)
    have hq2 : Prs w2 (some ⟨g', 0, none⟩) (stayL gs t d) := Row.prs (m := m1 * 2) (by rw [HL2.out]; exact hr2)
    clear hr1 hr2 hg hg'
    go_wp2_with fail
    refine (sameRats_any _ _ m1 m1 m1 c1 _ _ _ hq1 (hp1.bel hb2) HL1.out HL1.out hmax hmax).mono ?_
    rintro e w3 ⟨rfl, hb3⟩
    rw [same_self]
    go_wp2_with fail
    refine (sameRats_any _ _ m1 m1 m1 e1 _ _ _ (hq2.bel hb3) (hp2.bel (hb2.trans hb3)) HL2.out HL2.out hmax hmax).mono ?_
    rintro e w4 ⟨rfl, hb4⟩
    rw [same_self]
    have hb24 := hb3.trans hb4
    have hz1 := hq1.bel hb24
    have hz2 := hq2.bel hb24
    have hz3 : Prs w4 A gs := hR.bel (by (repeat (first | exact Bel.refl _ | assumption | refine Bel.drew ?_ | refine Bel.drewN ?_ _ | refine Bel.alloc ?_ _ | refine Bel.setCell ?_ (by first | omega | (simp; done) | (simp; omega) | (simp at *; omega)) _ | refine Bel.trans ?_ (by assumption))))
    have hbw : Bel w w4 := by (repeat (first | exact Bel.refl _ | assumption | refine Bel.drew ?_ | refine Bel.drewN ?_ _ | refine Bel.alloc ?_ _ | refine Bel.setCell ?_ (by first | omega | (simp; done) | (simp; omega) | (simp at *; omega)) _ | refine Bel.trans ?_ (by assumption)))
    clear hq1 hq2 hp1 hp2 hb1 hb2 hb3 hb4 hb24 hR
    go_wp2
    go_loopw [11] (fun i wr => ∃ k : Nat, k ≤ m1 ∧ i = .int .i64 k ∧ Bel w4 wr) (fun i _ => m1 - (intOf i).toNat)
    case atStart => exact ⟨0, Nat.zero_le _, rfl, Bel.refl _⟩
    case round =>
      obtain ⟨k, hk, rfl, hb⟩ := hrel
      by_cases hlt : k < m1
      · obtain ⟨b, o, s, m, rfl, hbl, hg, hc1, hc2⟩ := (hz3.bel hb).at_ (k := k) (by rw [Hn.out]; exact hlt)
        obtain ⟨⟨hm3, hm4⟩, hm1, hm2⟩ := hf (s, m) (List.mem_of_getElem? hg)
        simp only at hm1 hm2 hm3 hm4
        obtain ⟨y1, y2⟩ := mul_bd (A := 20) (B := 100) (by omega : 0 ≤ s) hm4 t1 t2
        obtain ⟨y3, y4⟩ := skn_bd (s := s) (t := t) (d := d) (by omega) t1 d1
        obtain ⟨y5, y6⟩ := mul_bd (A := 100) (B := 20) (by omega : 0 ≤ m) hm2 y3 (by omega)
        obtain ⟨y7, y8⟩ := mul_bd (A := 100) (B := 20) (b := d - skn s t d) (by omega : 0 ≤ m) hm2 (by omega) (by omega)
        have hx1 : (sunkL gs t d)[k]? = some (nd (m * skn s t d) d) := by rw [Hs1.out, List.getElem?_map, hg]; rfl
        have hx2 : (stayL gs t d)[k]? = some (nd (m * (d - skn s t d)) d) := by rw [Hs2.out, List.getElem?_map, hg]; rfl
        have hsum := split_adds (m := m) (k := skn s t d) (d := d) (by omega) y3 y4 (by omega)
        obtain ⟨v1, v2⟩ := num_bd (n := m * skn s t d) (d := d) y5 (by omega)
        obtain ⟨v3, v4⟩ := den_bd (n := m * skn s t d) (d := d) y5 (by omega)
        obtain ⟨v5, v6⟩ := num_bd (n := m * (d - skn s t d)) (d := d) y7 (by omega)
        obtain ⟨v7, v8⟩ := den_bd (n := m * (d - skn s t d)) (d := d) y7 (by omega)
        simp only [nd] at hx1 hx2 hsum
        generalize num (m * skn s t d) d = x1 at *
        generalize den (m * skn s t d) d = x2 at *
        generalize num (m * (d - skn s t d)) d = x3 at *
        generalize den (m * (d - skn s t d)) d = x4 at *
        have hone := nd_one (a := m) (by omega)
        simp only [nd, Prod.mk.injEq] at hone hsum
        obtain ⟨o1, o2⟩ := hone
        obtain ⟨o3, o4⟩ := hsum
        obtain ⟨z1, z2⟩ := mul_bd (A := 2000) (B := 20) v1 (by omega) (Int.le_of_lt v7) (by omega)
        obtain ⟨z3, z4⟩ := mul_bd (A := 2000) (B := 20) v5 (by omega) (Int.le_of_lt v3) (by omega)
        obtain ⟨z5, z6⟩ := mul_bd (A := 20) (B := 20) (Int.le_of_lt v3) (by omega : x2 ≤ 20) (Int.le_of_lt v7) (by omega)
        have z7 := Int.mul_pos v3 v7
        have held : ∀ w', Bel wr w' → w'.cell? ⟨g, k * 2, none⟩ = some (.int .i64 x1) ∧ w'.cell? ⟨g, k * 2 + 1, none⟩ = some (.int .i64 x2) ∧ w'.cell? ⟨g', k * 2, none⟩ = some (.int .i64 x3) ∧ w'.cell? ⟨g', k * 2 + 1, none⟩ = some (.int .i64 x4) ∧ w'.cell? ⟨b, o + k * 2 + 1, none⟩ = some (.int .i64 m) := by
          intro w' h
          have r1 := (hz1.bel (hb.trans h)).cellsAt hx1
          have r2 := (hz2.bel (hb.trans h)).cellsAt hx2
          have r3 := (hz3.bel (hb.trans h)).cellsAt hg
          simp only [Nat.zero_add] at r1 r2
          exact ⟨r1.1, r1.2, r2.1, r2.2, r3.2⟩
        have Held := Lib.hid held; clear held
        have O1 := Lib.hid o1; have O2 := Lib.hid o2; have O3 := Lib.hid o3; have O4 := Lib.hid o4
        have hkn : (k : Int) < (m1 : Int) := by omega
        have hk0 : (0 : Int) ≤ (k : Int) := by omega
        have hsm : SmallL [(x1, x2), (x3, x4)] := by
          intro x hx
          simp at hx
          rcases hx with rfl | rfl
          · simp only; omega
          · simp only; omega
        clear o1 o2 o3 o4 hx1 hx2 hg hc1 hc2 hz1 hz2 hz3 hf
        obtain ⟨wo, hwo⟩ : ∃ wo : World, wo = wr := ⟨_, rfl⟩
        subst hwo
        go_wp2
        go_region_held3 (fun w' => Bel wo w' ∧ w'.cell? ⟨g, k * 2, none⟩ = some (.int .i64 x1) ∧ w'.cell? ⟨g, k * 2 + 1, none⟩ = some (.int .i64 x2) ∧ w'.cell? ⟨g', k * 2, none⟩ = some (.int .i64 x3) ∧ w'.cell? ⟨g', k * 2 + 1, none⟩ = some (.int .i64 x4) ∧ w'.cell? ⟨b, o + k * 2 + 1, none⟩ = some (.int .i64 m)) (exact ⟨by (repeat (first | exact Bel.refl _ | assumption | refine Bel.drew ?_ | refine Bel.drewN ?_ _ | refine Bel.alloc ?_ _ | refine Bel.setCell ?_ (by first | omega | (simp; done) | (simp; omega) | (simp at *; omega)) _ | refine Bel.trans ?_ (by assumption))), Held.out _ (by (repeat (first | exact Bel.refl _ | assumption | refine Bel.drew ?_ | refine Bel.drewN ?_ _ | refine Bel.alloc ?_ _ | refine Bel.setCell ?_ (by first | omega | (simp; done) | (simp; omega) | (simp at *; omega)) _ | refine Bel.trans ?_ (by assumption))))⟩)
          (first | (go_at_call 64; refine (small_any _ 2 2 [(x1, x2), (x3, x4)] _ ((prs_lit wo x1 x2 x3 x4 29 wo.heap.size rfl).bel (Bel.refl _).drew) rfl (by omega) hsm).mono ?_; rintro e w' ⟨rfl, rfl⟩) | (go_at_call 65; refine (add_any x1 x2 x3 x4 _ z1 z3 (by omega) (by omega) z7 (by omega)).mono ?_; rintro e w5 ⟨rfl, hb5⟩; rw [O3.out, O4.out]) | (go_at_call 54; refine (ratio_any m 1 _ (by omega) (by omega) (by omega) (by omega)).mono ?_; rintro e w6 ⟨rfl, hb6⟩; rw [O1.out, O2.out]))
        go_wp2
        go_roundw
        case rel => exact ⟨k + 1, by omega, by go_num, by (repeat (first | exact Bel.refl _ | assumption | refine Bel.drew ?_ | refine Bel.drewN ?_ _ | refine Bel.alloc ?_ _ | refine Bel.setCell ?_ (by first | omega | (simp; done) | (simp; omega) | (simp at *; omega)) _ | refine Bel.trans ?_ (by assumption)))⟩
        case measure => simp [intOf]; omega
      · obtain rfl : k = m1 := by omega
        go_wp2_with (go_at_call 24; refine (known_any _).mono ?_; rintro e w7 ⟨rfl, hb7⟩)
        go_ret
        exact ⟨rfl, by (repeat (first | exact Bel.refl _ | assumption | refine Bel.drew ?_ | refine Bel.drewN ?_ _ | refine Bel.alloc ?_ _ | refine Bel.setCell ?_ (by first | omega | (simp; done) | (simp; omega) | (simp at *; omega)) _ | refine Bel.trans ?_ (by assumption)))⟩
  · obtain ⟨x, hx, hx0⟩ : ∃ x, ((errV gs = x ∧ x ≠ 0) ∨ (errV gs = 0 ∧ (within t 0 100 && within d 1 20) = false ∧ x = 1)) ∧ x ≠ 0 := by
      by_cases he : errV gs = 0
      · refine ⟨1, .inr ⟨he, ?_, rfl⟩, by omega⟩
        cases hw : (within t 0 100 && within d 1 20)
        · rfl
        · exact absurd ⟨he, hw⟩ hok
      · exact ⟨_, .inl ⟨rfl, he⟩, he⟩
    have HX := Lib.hid hx; clear hx hok
    have hne : (x != 0) = true := by simpa using hx0
    go_enter Try.func25, Try.ntmps25
    go_wp2_with (go_at_call 41; refine (long_any _ _ _ _).mono ?_; rintro e w' ⟨rfl, rfl⟩)
    refine (rSettle_err A n c gs t d _ (hR.bel (by (repeat (first | exact Bel.refl _ | assumption | refine Bel.drew ?_ | refine Bel.drewN ?_ _ | refine Bel.alloc ?_ _ | refine Bel.setCell ?_ (by first | omega | (simp; done) | (simp; omega) | (simp at *; omega)) _ | refine Bel.trans ?_ (by assumption))))) hn hmax x HX.out).mono ?_
    rintro e w1 ⟨rfl, hb1⟩
    obtain ⟨b1, b2⟩ := box2 hb1
    go_wp2_with fail
    refine (settle_err A n c gs t d _ (hR.bel (by (repeat (first | exact Bel.refl _ | assumption | refine Bel.drew ?_ | refine Bel.drewN ?_ _ | refine Bel.alloc ?_ _ | refine Bel.setCell ?_ (by first | omega | (simp; done) | (simp; omega) | (simp at *; omega)) _ | refine Bel.trans ?_ (by assumption))))) hn hmax x HX.out).mono ?_
    rintro e w2 ⟨rfl, hb2⟩
    go_wp2_with fail
    refine (sameRats_any none none 0 0 0 0 [] [] _ (.inl rfl) (.inl rfl) rfl rfl (by decide) (by decide)).mono ?_
    rintro e w3 ⟨rfl, hb3⟩
    rw [same_self]
    go_wp2_with fail
    refine (sameRats_any none none 0 0 0 0 [] [] _ (.inl rfl) (.inl rfl) rfl rfl (by decide) (by decide)).mono ?_
    rintro e w4 ⟨rfl, hb4⟩
    rw [same_self]
    go_wp2_with (go_at_call 24; refine (known_any _).mono ?_; rintro e w7 ⟨rfl, hb7⟩)
    go_ret
    exact ⟨rfl, by (repeat (first | exact Bel.refl _ | assumption | refine Bel.drew ?_ | refine Bel.drewN ?_ _ | refine Bel.alloc ?_ _ | refine Bel.setCell ?_ (by first | omega | (simp; done) | (simp; omega) | (simp at *; omega)) _ | refine Bel.trans ?_ (by assumption)))⟩

set_option maxHeartbeats 400000 in
theorem walk (A : Option Addr) (n c : Nat) (zs : List (Int × Int)) (t d : Int) (w : World) (a : Arg2 w A n c zs) :
    Calls Try.prog 6 #[.slice A n c, .agg #[.int .i64 t, .int .i64 d]] w fun e w' => e = .returned (.bool true) ∧ Bel w w' := by
  obtain ⟨e1, e2, e3⟩ := a.els
  have hcm := (reachN_le a.reach (by omega)).2
  go_enter Try.func6, Try.ntmps6
  go_wp2_with fail
  refine (keepGrains_any A n c zs _ (a.prs.bel (by (repeat (first | exact Bel.refl _ | assumption | refine Bel.drew ?_ | refine Bel.drewN ?_ _ | refine Bel.alloc ?_ _ | refine Bel.setCell ?_ (by first | omega | (simp; done) | (simp; omega) | (simp at *; omega)) _ | refine Bel.trans ?_ (by assumption))))) a.len a.le a.nil a.reach).mono ?_
  rintro e w1 ⟨A', n', c', rfl, hn', hb1, hr1⟩
  have HN := Lib.hid hn'; clear hn'
  have hb01 : Bel w w1 := by (repeat (first | exact Bel.refl _ | assumption | refine Bel.drew ?_ | refine Bel.drewN ?_ _ | refine Bel.alloc ?_ _ | refine Bel.setCell ?_ (by first | omega | (simp; done) | (simp; omega) | (simp at *; omega)) _ | refine Bel.trans ?_ (by assumption)))
  have hbox : Bel (w.alloc (.cells #[.int .i64 t, .int .i64 d] 27)) w1 := by (repeat (first | exact Bel.refl _ | assumption | refine Bel.drew ?_ | refine Bel.drewN ?_ _ | refine Bel.alloc ?_ _ | refine Bel.setCell ?_ (by first | omega | (simp; done) | (simp; omega) | (simp at *; omega)) _ | refine Bel.trans ?_ (by assumption)))
  obtain ⟨b1, b2⟩ := box2 hbox
  go_wp2_with fail
  refine (inner A n c _ t d _ (e1.bel hb01) e2 ).mono ?_
  rintro e w2 ⟨rfl, hb2⟩
  have hb12 : Bel w1 w2 := by (repeat (first | exact Bel.refl _ | assumption | refine Bel.drew ?_ | refine Bel.drewN ?_ _ | refine Bel.alloc ?_ _ | refine Bel.setCell ?_ (by first | omega | (simp; done) | (simp; omega) | (simp at *; omega)) _ | refine Bel.trans ?_ (by assumption)))
  go_wp2_with fail
  refine (keptGrains_any A' A n' c' n c zs _ (hr1.bel hb12) (a.prs.bel (hb01.trans hb12)) HN.out.symm a.len a.le a.nil (reachN_le a.reach (by omega)).1).mono ?_
  rintro e w3 ⟨rfl, hb3⟩
  go_wp2
  go_ret
  exact ⟨rfl, (hb01.trans hb12).trans hb3⟩

set_option maxRecDepth 100000 in
theorem lifted (os : Os) (started : os.Started) (H : Type) (enc : TypeId × Value → H) :
    ReturnsInHanded {} Try.checked os 6 .any (Rows.washSettlesSpec.pre6 enc Try.prog Try.f6 Rows.washSettlesRow.domain false) (Rows.washSettlesSpec.post enc Try.prog Try.f6 false true false false) := by
  refine returnsInHanded_of_change_sized (C := Try.checked) own started (by kernel_rfl) Try.func6
    (ChangeSpec.witness6 (enc := enc) (C := Try.checked) false ⟨#[], #[.slice none 0 0, .agg #[.int .i64 0, .int .i64 0]], []⟩ 8 (by kernel_rfl) (by kernel_rfl) (by kernel_rfl) (by kernel_rfl)) ?_
  intro W base args ds gs before hval0 hW hcnd hsz0 _
  have hval : ∀ (j : Nat) t v, Try.f6.params[j]? = some t → args[j]? = some v → Value.okWide Try.prog W .any base t v := hval0
  have hsz : (DataW.weightsEach Try.prog (Try.f6.params.toList ++ Rows.washSettlesSpec.plain.varTypes Try.prog) (ds ++ gs)).all (· ≤ reachBytes) = true := hsz0
  have hW' := hW
  obtain ⟨p, q, hA0, hV, rfl, hfz, hnd⟩ := hW
  have hA : DataW.TrodAll enc Try.prog W 0 (fun _ => true) true Try.f6.params.toList args.toList ds p := hA0
  rw [Try.params6] at hA hval hsz
  obtain ⟨v0, vs0, d0, ds0, p0, q0, hargs, rfl, rfl, h0, r0⟩ := trodAll_cons hA
  obtain ⟨v1, vs1, d1, ds1, p1, q1, rfl, rfl, rfl, h1, r1⟩ := trodAll_cons r0
  obtain ⟨rfl, rfl, rfl⟩ := trodAll_nil r1
  obtain rfl : args = #[v0, v1] := by cases args; simp_all
  obtain ⟨rfl, rfl⟩ := trodVars_none hV
  have k0 := h0
  have lt0 : ∀ x ∈ p0, x.block < W.heap.size := by obtain ⟨m, hm⟩ := k0; exact DataW.trod_lt m _ _ _ hm
  have k1 := h1
  have lt1 : ∀ x ∈ p1, x.block < W.heap.size := by obtain ⟨m, hm⟩ := k1; exact DataW.trod_lt m _ _ _ hm
  have hr0 : ∀ es sp, d0 = .slice es sp → (es.length + sp.length) * 16 ≤ reachN := by
    intro es sp hd
    have := sized_slice (elems := es) (spare := sp) hsz (j := 0) (t := 22) (e := 58) rfl (by rw [hd]; rfl) Try.underlying22
    rw [bytesGrain] at this
    exact this
  obtain ⟨A0, n0, c0, zs0, rfl, a0⟩ := open_arg2 (hval 0 22 v0 rfl rfl) h0 hr0
  obtain ⟨x1, y1, rfl⟩ : ∃ x y : Int, v1 = .agg #[.int .i64 x, .int .i64 y] := by
    obtain ⟨c0, c1, y0, y1, m, rfl, -, -, hy0, hy1⟩ := open_agg2 Try.underlying27 (by kernel_rfl) cellsPot (hval 1 27 v1 rfl rfl) h1
    obtain ⟨a, e0, -, -⟩ := DataW.trod_int Try.underlying3 hy0
    obtain ⟨b, e1, -, -⟩ := DataW.trod_int Try.underlying3 hy1
    simp at e0 e1
    subst e0 e1
    exact ⟨a, b, rfl⟩
  clear hA0 hval0
  refine (walk A0 n0 c0 zs0 x1 y1 W a0).mono fun e W' ⟨he, bel⟩ => ?_
  subst he
  exact ⟨_, rfl, _, _, _, [], _, [], hW', trodAll_mk1 (shut_bool Try.underlying4 _), trodAll_cons_mk (Below.trod laidOut (by kernel_rfl) (of_decide_eq_true (by kernel_rfl)) k0 bel lt0) (trodAll_cons_mk (Below.trod laidOut (by kernel_rfl) (of_decide_eq_true (by kernel_rfl)) k1 bel lt1) (trodAll_mk0)), rfl, Below.frame bel _, fun h => by cases h⟩

theorem over : Rows.washSettlesRow.holds Try.pinned (OpenSpec.ofChange Rows.washSettlesSpec) :=
  OpenClaim.holds_of_wide 6 Try.f6 rfl rfl rfl rfl rfl rfl rfl ⟨rfl, rfl, rfl, rfl, rfl⟩ rfl rfl rfl rfl rfl (by kernel_rfl) Try.func6 (by kernel_rfl)
    (of_decide_eq_true (by kernel_rfl)) (by unfold Func.isWrapper; rw [if_neg (of_decide_eq_false (by kernel_rfl))]; exact ⟨rfl, rfl⟩)
    (fun os started H enc _ => lifted os started H enc)

/-- The statement. -/
theorem proved : Rows.WashSettlesSaid := over
end Go.Proofs.Ytnlcndhbamcpdaa.washSettles
