/-
  The statement WashSievesSaid: for all lots and sizes Sieve answers as the document says, both parts join to the lot again, they are new memory, the list stays as it was in its spare cells, too, and the known masses come out. No condition.
-/
import Derived.Test.YtnlcndhbamcpdaaBG
import Derived.Test.YtnlcndhbamcpdaaBH
import Derived.Test.YtnlcndhbamcpdaaY2
namespace Go.Proofs.Ytnlcndhbamcpdaa.washSieves
open Go.ChangeShapes Go.WideShapes Go.ChangeAt Go.RowKit Go.Joins

theorem scan_mono {a b : Int} {l : List (Int × Int)} (h : scan a l = true) (hb : b ≤ a) : scan b l = true := by
  cases l with
  | nil => rfl
  | cons g r =>
    simp only [scan, Bool.and_eq_true, decide_eq_true_eq] at h ⊢
    exact ⟨⟨⟨⟨by omega, h.1.1.1.2⟩, h.1.1.2⟩, h.1.2⟩, h.2⟩
theorem scan_filter {a : Int} {l : List (Int × Int)} (p : Int × Int → Bool) (h : scan a l = true) : scan a (l.filter p) = true := by
  induction l generalizing a with
  | nil => rfl
  | cons g r ih =>
    have h0 := h
    simp only [scan, Bool.and_eq_true, decide_eq_true_eq] at h
    have i := ih h.2
    by_cases c : p g = true
    · rw [List.filter_cons_of_pos c]
      simp only [scan, Bool.and_eq_true, decide_eq_true_eq]
      exact ⟨h.1, i⟩
    · rw [List.filter_cons_of_neg c]
      exact scan_mono i (by omega)
theorem errV_filter {gs : List (Int × Int)} (p : Int × Int → Bool) (h : errV gs = 0) : errV (gs.filter p) = 0 := by
  have l := (errV_zero h).1
  have s := scan_filter p (scan_of h)
  have l2 := List.length_filter_le p gs
  unfold errV
  rw [if_neg (by omega), if_pos s]
theorem errB_sieve {gs : List (Int × Int)} (size : Int) (h : errV gs = 0) : errB (fineL gs size) (roughL gs size) = 0 := by
  have a : errV (fineL gs size) = 0 := errV_filter _ h
  have b : errV (roughL gs size) = 0 := errV_filter _ h
  unfold errB
  rw [if_pos a, b]
theorem joinF_sieve (gs : List (Int × Int)) (size : Int) : joinF (fineL gs size) (roughL gs size) = massF gs := by
  funext i
  unfold joinF
  induction gs with
  | nil => rfl
  | cons g r ih =>
    have e : ∀ x : List (Int × Int), massF (g :: x) i = (if g.1 = (i : Int) then g.2 else 0) + massF x i := fun x => by simp [massF]
    rw [e, ← ih]
    unfold fineL roughL
    by_cases c : g.1 ≤ size
    · rw [List.filter_cons_of_pos (by simpa using c), List.filter_cons_of_neg (by simpa using c), e]; omega
    · rw [List.filter_cons_of_neg (by simpa using c), List.filter_cons_of_pos (by simpa using c), e]; omega
theorem lotF_sieve {gs : List (Int × Int)} (size : Int) (h : errV gs = 0) : lotF (joinF (fineL gs size) (roughL gs size)) = gs := by rw [joinF_sieve, canon h]
theorem join_ok {w w' : World} {gs hs : List (Int × Int)} {e : Ending} (h : JoinAnsN w gs hs e w') (h1 : errB gs hs = 0) (h2 : errV (lotF (joinF gs hs)) = 0) :
    ∃ A n c, e = .returned (.tuple #[.slice A n c, .int .i64 0]) ∧ n = (lotF (joinF gs hs)).length ∧ n ≤ c ∧ c ≤ maxLen ∧ Bel w w' ∧ Prs w' A (lotF (joinF gs hs)) ∧ ∀ a, A = some a → w.heap.size ≤ a.block := by
  rcases h with h | ⟨_, h | h⟩
  · exact absurd h1 h.1
  · exact h.2
  · exact absurd h2 h.1
theorem same_self (l : List (Int × Int)) : same l l = true := by simp [same]
theorem own_form3 {e base : Nat} {w : World} {v : Value} {l : List (Int × Int)} (h : Own2 e base w v l) : ∃ A n c, v = .slice A n c ∧ n = l.length ∧ n ≤ c ∧ c ≤ maxLen ∧ (c = n ∨ ∃ b o, A = some ⟨b, o, none⟩) := by
  rcases h.2 with ⟨rfl, h0⟩ | ⟨g, cap, cur, rfl, _, _, h1, h2, _⟩
  · exact ⟨_, _, _, rfl, h0.symm, Nat.le_refl _, by decide, .inl rfl⟩
  · exact ⟨_, _, _, rfl, rfl, h1, h2, .inr ⟨_, _, rfl⟩⟩
theorem own_of {e base n : Nat} {w : World} {v : Value} {l : List (Int × Int)} (h : w.ownsRow base e 2 v (0 + n) ([] ++ cel2 l)) (hn : l.length = n) : Own2 e base w v l := by
  unfold Own2
  rw [hn]
  simpa using h
theorem prs_far {w : World} {A : Option Addr} {l : List (Int × Int)} (h : Prs w A l) {b : Nat} (hb : ∀ a, A = some a → a.block ≠ b) (o : Nat) (v : Value) : Prs (w.setCell ⟨b, o, none⟩ v) A l := by
  rcases h with rfl | ⟨b', o', hA, hlt, hc⟩
  · exact .inl rfl
  · subst hA
    have hne := hb _ rfl
    refine .inr ⟨b', o', rfl, by simpa [World.setCell] using hlt, fun j s x hj => ?_⟩
    obtain ⟨c1, c2⟩ := hc j s x hj
    rw [World.cell?_setCell_other _ _ _ _ (by simp; intro h; exact absurd h (by simpa using Ne.symm hne)), World.cell?_setCell_other _ _ _ _ (by simp; intro h; exact absurd h (by simpa using Ne.symm hne))]
    exact ⟨c1, c2⟩
theorem row_poke {w : World} {g m : Nat} {f : Nat → Int} (h : Row w g m 0 f) (p : Addr) (v : Value) : Row (w.setCell p v) g m 0 f := by
  refine ⟨by simpa [World.setCell] using h.lt, fun i => by rw [World.frozen?_setCell]; exact h.fz i, fun i hi => ?_, fun i hi => by omega⟩
  obtain ⟨u, hu⟩ := h.all i hi
  by_cases e : (⟨g, i, none⟩ : Addr) = p
  · subst e
    exact ⟨v, World.cell?_setCell_same _ _ _ hu⟩
  · exact ⟨u, by rw [World.cell?_setCell_other _ _ _ _ (fun x => e x.symm)]; exact hu⟩
theorem Row.none_ {w : World} {g m k : Nat} {f : Nat → Int} (h : Row w g m k f) : Row w g m 0 f := ⟨h.lt, h.fz, h.all, fun i hi => by omega⟩

set_option maxRecDepth 100000 in
set_option maxHeartbeats 4000000 in
theorem inner (A : Option Addr) (n c : Nat) (gs : List (Int × Int)) (size : Int) (w : World) (hR : Prs w A gs) (hn : gs.length = n) (hc : n ≤ c) (hc2 : c ≤ maxLen) :
    Calls Try.prog 21 #[.slice A n c, .int .i64 size] w fun e w' => e = .returned (.bool true) ∧ Bel w w' := by
  by_cases h40 : 40 < n
  · have hk : decide (40 < n) = true := by simpa using h40
    go_enter Try.func21, Try.ntmps21
    go_wp2_with (first | (go_at_call 41; refine (long_any _ _ _ _).mono ?_; rintro e w' ⟨rfl, rfl⟩) | (go_at_call 24; refine (known_any _).mono ?_; rintro e w7 ⟨rfl, hb7⟩))
    go_ret
    exact ⟨rfl, by (repeat (first | exact Bel.refl _ | assumption | refine Bel.drew ?_ | refine Bel.drewN ?_ _ | refine Bel.alloc ?_ _ | refine Bel.setCell ?_ (by first | omega | (simp; done) | (simp; omega) | (simp at *; omega)) _ | refine Bel.trans ?_ (by assumption)))⟩
  have hk : decide (40 < n) = false := by simpa using h40
  have hmax : n ≤ maxLen := by omega
  clear hc hc2
  rcases A with _ | a
  · obtain rfl : gs = [] := by
      rcases hR with h | ⟨b, o, h, _⟩
      · exact h
      · cases h
    obtain rfl : n = 0 := by simpa using hn.symm
    clear hn
    have he : errV [] = 0 := by decide
    have HE := Lib.hid he
    have HB := Lib.hid (errB_sieve size he)
    have HL := Lib.hid (lotF_sieve size he)
    have h6 : ([] : List (Int × Int)).length ≤ 6 := by simp
    have hf6 := fineL_le [] size
    have hr6 := roughL_le [] size
    have hmx : 6 ≤ maxLen := by unfold maxLen; omega
    have hpo : Prs (w.alloc (.cells #[] 58)) (some ⟨w.heap.size, 0, none⟩) [] := .inl rfl
    have hb1 : Bel w (w.alloc (.cells #[] 58)) := by (repeat (first | exact Bel.refl _ | assumption | refine Bel.drew ?_ | refine Bel.drewN ?_ _ | refine Bel.alloc ?_ _ | refine Bel.setCell ?_ (by first | omega | (simp; done) | (simp; omega) | (simp at *; omega)) _ | refine Bel.trans ?_ (by assumption)))
    clear he hmax h40
    go_enter Try.func21, Try.ntmps21
    go_wp2_with (go_at_call 41; refine (long_any _ _ _ _).mono ?_; rintro e w' ⟨rfl, rfl⟩)
    refine (rSieve_ok _ 0 c [] size _ (hR.bel hb1) rfl HE.out).mono ?_
    rintro e w2 ⟨A1, n1, c1, A2, n2, c2, rfl, hn1, hn2, hb2, hp1, hp2⟩
    have HN1 := Lib.hid hn1; have HN2 := Lib.hid hn2
    rw [← hn1] at hf6
    rw [← hn2] at hr6
    clear hn1 hn2
    go_wp2_with fail
    refine (wSieve_ok _ 0 0 [] size _ (hpo.bel hb2) rfl (Nat.le_refl _) (by decide) (.inl rfl) HE.out).mono ?_
    rintro e w3 ⟨g1, g2, m1, m2, rfl, hm1, hm2, hg1, hb3, hr1, hr2⟩
    obtain rfl : m1 = n1 := by rw [hm1]; exact HN1.out.symm
    obtain rfl : m2 = n2 := by rw [hm2]; exact HN2.out.symm
    clear hm1 hm2
    have hq1 : Prs w3 (some ⟨g1, 0, none⟩) (fineL [] size) := Row.prs (m := m1 * 2) (by rw [← HN1.out]; exact hr1)
    have hq2 : Prs w3 (some ⟨g2, 0, none⟩) (roughL [] size) := Row.prs (m := m2 * 2) (by rw [← HN2.out]; exact hr2)
    clear hr2
    go_wp2_with fail
    refine (sameLot_any _ _ m1 m1 m1 c1 _ _ _ hq1 (hp1.bel hb3) HN1.out.symm HN1.out.symm (by omega) (by omega)).mono ?_
    rintro e w4 ⟨rfl, hb4⟩
    rw [same_self]
    go_wp2_with fail
    refine (sameLot_any _ _ m2 m2 m2 c2 _ _ _ (hq2.bel hb4) (hp2.bel (hb3.trans hb4)) HN2.out.symm HN2.out.symm (by omega) (by omega)).mono ?_
    rintro e w5 ⟨rfl, hb5⟩
    rw [same_self]
    have hb35 := hb4.trans hb5
    go_wp2_with fail
    refine (wJoin_new _ _ m1 m1 m2 m2 _ _ _ (hq1.bel hb35) (hq2.bel hb35) HN1.out.symm HN2.out.symm (by omega) (by omega)).mono ?_
    intro e w6 h6'
    obtain ⟨A6, n6, c6, rfl, hn6, hc6, hm6, hb6, hp6, hnew⟩ := join_ok h6' HB.out (by rw [HL.out]; exact HE.out)
    rw [HL.out] at hn6 hp6
    obtain rfl : n6 = 0 := by rw [hn6]; rfl
    clear hn6 h6'
    have hr6' := Row.none_ (hr1.bel (hb35.trans hb6))
    have hl6 := (hr1.bel hb35).lt
    have hfar : ∀ a, A6 = some a → a.block ≠ g1 := fun a ha => by have := hnew a ha; omega
    have hg1' : w2.heap.size ≤ g1 := hg1
    have hb26 : Bel w2 w6 := (hb3.trans hb35).trans hb6
    have hb12 := hb1.trans hb2
    have hw2 := hb12.size
    have hpo2 := hpo.bel hb2
    have hR2 := hR.bel hb12
    clear hq1 hq2 hp1 hp2 hnew hr1 hb3 hb4 hb5 hb35 hb6 hpo hR hb1 hb2 hl6 hg1
    go_wp2_with fail
    go_loopw [14] (fun i wr => ∃ k : Nat, k ≤ m1 ∧ i = .int .i64 k ∧ Bel w2 wr ∧ Prs wr A6 [] ∧ Row wr g1 (m1 * 2) 0 (flat2 (fineL [] size))) (fun i _ => m1 - (intOf i).toNat)
    case atStart => exact ⟨0, Nat.zero_le _, rfl, hb26, hp6, hr6'⟩
    case round =>
      clear hb26 hp6 hr6'
      obtain ⟨k, hk', rfl, hb, hp, hr⟩ := hrel
      by_cases hlt : k < m1
      · obtain ⟨u, hu⟩ := hr.all (k * 2 + 1) (by omega)
        have hfz := hr.fz (k * 2 + 1)
        have hgl := hr.lt
        have hkn : (k : Int) < (m1 : Int) := by omega
        have hk0 : (0 : Int) ≤ (k : Int) := by omega
        go_wp2
        go_roundw
        case rel => exact ⟨k + 1, by omega, by go_num, by (repeat (first | exact Bel.refl _ | assumption | refine Bel.drew ?_ | refine Bel.drewN ?_ _ | refine Bel.alloc ?_ _ | refine Bel.setCell ?_ (by first | omega | (simp; done) | (simp; omega) | (simp at *; omega)) _ | refine Bel.trans ?_ (by assumption))), prs_far hp hfar _ _, row_poke hr _ _⟩
        case measure => simp [intOf]; omega
      · obtain rfl : k = m1 := by omega
        clear hr hfar
        go_wp2_with fail
        refine (sameLot_any A6 _ 0 c6 0 c _ _ _ hp (hR2.bel hb) rfl rfl (by omega) (by omega)).mono ?_
        rintro e w8 ⟨rfl, hb8⟩
        rw [same_self]
        go_wp2_with fail
        refine (sameLot_any _ _ 0 0 0 c _ _ _ (hpo2.bel (hb.trans hb8)) (hR2.bel (hb.trans hb8)) rfl rfl (by omega) (by omega)).mono ?_
        rintro e w9 ⟨rfl, hb9⟩
        rw [same_self]
        have hend : Bel w w9 := ((hb12.trans hb).trans hb8).trans hb9
        go_wp2_with (go_at_call 24; refine (known_any _).mono ?_; rintro e w7 ⟨rfl, hb7⟩)
        go_ret
        exact ⟨rfl, by (repeat (first | exact Bel.refl _ | assumption | refine Bel.drew ?_ | refine Bel.drewN ?_ _ | refine Bel.alloc ?_ _ | refine Bel.setCell ?_ (by first | omega | (simp; done) | (simp; omega) | (simp at *; omega)) _ | refine Bel.trans ?_ (by assumption)))⟩
  · obtain ⟨i0, hi, hz0, hz1, hz2⟩ := info_parts info2G
    have hcells := prs_cells (hR.bel ((Bel.refl w).alloc (.cells #[] 58)))
    have Hc := Lib.hid hcells; clear hcells
    have hlen := cel2_length gs
    rw [hn] at hlen
    have Hl := Lib.hid hlen; clear hlen
    have Hn := Lib.hid hn; clear hn
    have H63 := Lib.hid (show 0 + n ≤ maxLen by omega)
    have Hby := Lib.hid (show (0 + n) * 16 ≤ 140737488355328 by omega)
    have HP := Lib.hid hR
    clear hmax
    by_cases he : errV gs = 0
    · have HE := Lib.hid he
      have HB := Lib.hid (errB_sieve size he)
      have HL := Lib.hid (lotF_sieve size he)
      have h6 := (errV_zero he).1
      have hf6 := fineL_le gs size
      have hmx : 6 ≤ maxLen := by unfold maxLen; omega
      have hr6 := roughL_le gs size
      clear he
      go_enter Try.func21, Try.ntmps21
      go_wp2_with (first | (go_at_call 41; refine (long_any _ _ _ _).mono ?_; rintro e w' ⟨rfl, rfl⟩) | (at_builtin; refine wpList_append_own _ rfl _ _ 22 rfl w.heap.size 58 i0 _ 2 16 Try.underlying22 hi hz0 hz1 hz2 rfl (by decide) _ 0 [] rfl (World.ownsRow_lit w #[] 0 (Nat.le_refl _) (by decide) rfl) a n c (cel2 gs) rfl Hl.out Hc.out (cel2_one gs) H63.out Hby.out (by simp) ?_; intro v' w1 hown hgr _))
      have hb1 : Bel w w1 := Bel.grown ((Bel.refl w).alloc _) (g := w.heap.size) hgr (Nat.le_refl _)
      have hO := own_of hown Hn.out
      clear hown hgr
      obtain ⟨A0, n0, c0, rfl, hn0, hnc0, hm0, hA0⟩ := own_form3 hO
      obtain rfl : n0 = n := by rw [hn0]; exact Hn.out
      have hpo := hO.prs
      clear hn0 hO
      refine (rSieve_ok _ n0 c gs size _ (hR.bel hb1) Hn.out HE.out).mono ?_
      rintro e w2 ⟨A1, n1, c1, A2, n2, c2, rfl, hn1, hn2, hb2, hp1, hp2⟩
      have HN1 := Lib.hid hn1; have HN2 := Lib.hid hn2
      rw [← hn1] at hf6
      rw [← hn2] at hr6
      clear hn1 hn2
      go_wp2_with fail
      refine (wSieve_ok _ n0 c0 gs size _ (hpo.bel hb2) Hn.out hnc0 hm0 hA0 HE.out).mono ?_
      rintro e w3 ⟨g1, g2, m1, m2, rfl, hm1, hm2, hg1, hb3, hr1, hr2⟩
      obtain rfl : m1 = n1 := by rw [hm1]; exact HN1.out.symm
      obtain rfl : m2 = n2 := by rw [hm2]; exact HN2.out.symm
      clear hm1 hm2
      have hq1 : Prs w3 (some ⟨g1, 0, none⟩) (fineL gs size) := Row.prs (m := m1 * 2) (by rw [← HN1.out]; exact hr1)
      have hq2 : Prs w3 (some ⟨g2, 0, none⟩) (roughL gs size) := Row.prs (m := m2 * 2) (by rw [← HN2.out]; exact hr2)
      clear hr2
      go_wp2_with fail
      refine (sameLot_any _ _ m1 m1 m1 c1 _ _ _ hq1 (hp1.bel hb3) HN1.out.symm HN1.out.symm (by omega) (by omega)).mono ?_
      rintro e w4 ⟨rfl, hb4⟩
      rw [same_self]
      go_wp2_with fail
      refine (sameLot_any _ _ m2 m2 m2 c2 _ _ _ (hq2.bel hb4) (hp2.bel (hb3.trans hb4)) HN2.out.symm HN2.out.symm (by omega) (by omega)).mono ?_
      rintro e w5 ⟨rfl, hb5⟩
      rw [same_self]
      have hb35 := hb4.trans hb5
      go_wp2_with fail
      refine (wJoin_new _ _ m1 m1 m2 m2 _ _ _ (hq1.bel hb35) (hq2.bel hb35) HN1.out.symm HN2.out.symm (by omega) (by omega)).mono ?_
      intro e w6 h6'
      obtain ⟨A6, n6, c6, rfl, hn6, hc6, hm6, hb6, hp6, hnew⟩ := join_ok h6' HB.out (by rw [HL.out]; exact HE.out)
      rw [HL.out] at hn6 hp6
      obtain rfl : n6 = n0 := by rw [hn6]; exact Hn.out
      clear hn6 h6'
      have hr6' := Row.none_ (hr1.bel (hb35.trans hb6))
      have hl6 := (hr1.bel hb35).lt
      have hfar : ∀ a, A6 = some a → a.block ≠ g1 := fun a ha => by have := hnew a ha; omega
      have hg1' : w2.heap.size ≤ g1 := hg1
      have hb26 : Bel w2 w6 := (hb3.trans hb35).trans hb6
      have hb12 := hb1.trans hb2
      have hw2 := hb12.size
      have hpo2 := hpo.bel hb2
      have hR2 := hR.bel hb12
      clear hq1 hq2 hp1 hp2 hnew hr1 hb3 hb4 hb5 hb35 hb6 hpo hR hb1 hb2 hl6 hg1 HP Hc
      go_wp2_with fail
      go_loopw [14] (fun i wr => ∃ k : Nat, k ≤ m1 ∧ i = .int .i64 k ∧ Bel w2 wr ∧ Prs wr A6 gs ∧ Row wr g1 (m1 * 2) 0 (flat2 (fineL gs size))) (fun i _ => m1 - (intOf i).toNat)
      case atStart => exact ⟨0, Nat.zero_le _, rfl, hb26, hp6, hr6'⟩
      case round =>
        clear hb26 hp6 hr6'
        obtain ⟨k, hk', rfl, hb, hp, hr⟩ := hrel
        by_cases hlt : k < m1
        · obtain ⟨u, hu⟩ := hr.all (k * 2 + 1) (by omega)
          have hfz := hr.fz (k * 2 + 1)
          have hgl := hr.lt
          have hkn : (k : Int) < (m1 : Int) := by omega
          have hk0 : (0 : Int) ≤ (k : Int) := by omega
          go_wp2
          go_roundw
          case rel => exact ⟨k + 1, by omega, by go_num, by (repeat (first | exact Bel.refl _ | assumption | refine Bel.drew ?_ | refine Bel.drewN ?_ _ | refine Bel.alloc ?_ _ | refine Bel.setCell ?_ (by first | omega | (simp; done) | (simp; omega) | (simp at *; omega)) _ | refine Bel.trans ?_ (by assumption))), prs_far hp hfar _ _, row_poke hr _ _⟩
          case measure => simp [intOf]; omega
        · obtain rfl : k = m1 := by omega
          clear hr hfar
          go_wp2_with fail
          refine (sameLot_any A6 _ n6 c6 n6 c _ _ _ hp (hR2.bel hb) Hn.out Hn.out (by omega) (by omega)).mono ?_
          rintro e w8 ⟨rfl, hb8⟩
          rw [same_self]
          go_wp2_with fail
          refine (sameLot_any A0 _ n6 c0 n6 c _ _ _ (hpo2.bel (hb.trans hb8)) (hR2.bel (hb.trans hb8)) Hn.out Hn.out (by omega) (by omega)).mono ?_
          rintro e w9 ⟨rfl, hb9⟩
          rw [same_self]
          have hend : Bel w w9 := ((hb12.trans hb).trans hb8).trans hb9
          go_wp2_with (go_at_call 24; refine (known_any _).mono ?_; rintro e w7 ⟨rfl, hb7⟩)
          go_ret
          exact ⟨rfl, by (repeat (first | exact Bel.refl _ | assumption | refine Bel.drew ?_ | refine Bel.drewN ?_ _ | refine Bel.alloc ?_ _ | refine Bel.setCell ?_ (by first | omega | (simp; done) | (simp; omega) | (simp at *; omega)) _ | refine Bel.trans ?_ (by assumption)))⟩
    · have hne : (errV gs != 0) = true := by simpa using he
      have HE := Lib.hid he; clear he
      go_enter Try.func21, Try.ntmps21
      go_wp2_with (first | (go_at_call 41; refine (long_any _ _ _ _).mono ?_; rintro e w' ⟨rfl, rfl⟩) | (at_builtin; refine wpList_append_own _ rfl _ _ 22 rfl w.heap.size 58 i0 _ 2 16 Try.underlying22 hi hz0 hz1 hz2 rfl (by decide) _ 0 [] rfl (World.ownsRow_lit w #[] 0 (Nat.le_refl _) (by decide) rfl) a n c (cel2 gs) rfl Hl.out Hc.out (cel2_one gs) H63.out Hby.out (by simp) ?_; intro v' w1 hown hgr _))
      have hb1 : Bel w w1 := Bel.grown ((Bel.refl w).alloc _) (g := w.heap.size) hgr (Nat.le_refl _)
      have hO := own_of hown Hn.out
      clear hown hgr
      obtain ⟨A0, n0, c0, rfl, hn0, hnc0, hm0, hA0⟩ := own_form3 hO
      obtain rfl : n0 = n := by rw [hn0]; exact Hn.out
      have hpo := hO.prs
      clear hn0 hO
      refine (rSieve_err _ n0 c gs size _ (hR.bel hb1) Hn.out (by omega) HE.out).mono ?_
      rintro e w2 ⟨rfl, hb2⟩
      go_wp2_with fail
      refine (wSieve_err _ n0 c0 gs size _ (hpo.bel hb2) Hn.out (by omega) HE.out).mono ?_
      rintro e w3 ⟨rfl, hb3⟩
      go_wp2_with fail
      refine (sameLot_any none none 0 0 0 0 [] [] _ (.inl rfl) (.inl rfl) rfl rfl (by decide) (by decide)).mono ?_
      rintro e w4 ⟨rfl, hb4⟩
      rw [same_self]
      go_wp2_with fail
      refine (sameLot_any none none 0 0 0 0 [] [] _ (.inl rfl) (.inl rfl) rfl rfl (by decide) (by decide)).mono ?_
      rintro e w5 ⟨rfl, hb5⟩
      rw [same_self]
      go_wp2_with (go_at_call 24; refine (known_any _).mono ?_; rintro e w7 ⟨rfl, hb7⟩)
      go_ret
      exact ⟨rfl, by (repeat (first | exact Bel.refl _ | assumption | refine Bel.drew ?_ | refine Bel.drewN ?_ _ | refine Bel.alloc ?_ _ | refine Bel.setCell ?_ (by first | omega | (simp; done) | (simp; omega) | (simp at *; omega)) _ | refine Bel.trans ?_ (by assumption)))⟩

set_option maxHeartbeats 400000 in
theorem walk (A : Option Addr) (n c : Nat) (zs : List (Int × Int)) (size : Int) (w : World) (a : Arg2 w A n c zs) :
    Calls Try.prog 4 #[.slice A n c, .int .i64 size] w fun e w' => e = .returned (.bool true) ∧ Bel w w' := by
  obtain ⟨e1, e2, e3⟩ := a.els
  have hcm := (reachN_le a.reach (by omega)).2
  go_enter Try.func4, Try.ntmps4
  go_wp2_with fail
  refine (keepGrains_any A n c zs _ (a.prs.bel (by (repeat (first | exact Bel.refl _ | assumption | refine Bel.drew ?_ | refine Bel.drewN ?_ _ | refine Bel.alloc ?_ _ | refine Bel.setCell ?_ (by first | omega | (simp; done) | (simp; omega) | (simp at *; omega)) _ | refine Bel.trans ?_ (by assumption))))) a.len a.le a.nil a.reach).mono ?_
  rintro e w1 ⟨A', n', c', rfl, hn', hb1, hr1⟩
  have HN := Lib.hid hn'; clear hn'
  have hb01 : Bel w w1 := by (repeat (first | exact Bel.refl _ | assumption | refine Bel.drew ?_ | refine Bel.drewN ?_ _ | refine Bel.alloc ?_ _ | refine Bel.setCell ?_ (by first | omega | (simp; done) | (simp; omega) | (simp at *; omega)) _ | refine Bel.trans ?_ (by assumption)))
  skip
  go_wp2_with fail
  refine (inner A n c _ size _ (e1.bel hb01) e2 a.le hcm).mono ?_
  rintro e w2 ⟨rfl, hb2⟩
  have hb12 : Bel w1 w2 := by (repeat (first | exact Bel.refl _ | assumption | refine Bel.drew ?_ | refine Bel.drewN ?_ _ | refine Bel.alloc ?_ _ | refine Bel.setCell ?_ (by first | omega | (simp; done) | (simp; omega) | (simp at *; omega)) _ | refine Bel.trans ?_ (by assumption)))
  go_wp2_with fail
  refine (keptGrains_any A' A n' c' n c zs _ (hr1.bel hb12) (a.prs.bel (hb01.trans hb12)) HN.out.symm a.len a.le a.nil (reachN_le a.reach (by omega)).1).mono ?_
  rintro e w3 ⟨rfl, hb3⟩
  go_wp2
  go_ret
  exact ⟨rfl, (hb01.trans hb12).trans hb3⟩


set_option maxRecDepth 100000 in
theorem lifted (os : Os) (started : os.Started) (H : Type) (enc : TypeId × Value → H) :
    ReturnsInHanded {} Try.checked os 4 .any (Rows.washSievesSpec.pre6 enc Try.prog Try.f4 Rows.washSievesRow.domain false) (Rows.washSievesSpec.post enc Try.prog Try.f4 false true false false) := by
  refine returnsInHanded_of_change_sized (C := Try.checked) own started (by kernel_rfl) Try.func4
    (ChangeSpec.witness6 (enc := enc) (C := Try.checked) false ⟨#[], #[.slice none 0 0, .int .i64 0], []⟩ 8 (by kernel_rfl) (by kernel_rfl) (by kernel_rfl) (by kernel_rfl)) ?_
  intro W base args ds gs before hval0 hW hcnd hsz0 _
  have hval : ∀ (j : Nat) t v, Try.f4.params[j]? = some t → args[j]? = some v → Value.okWide Try.prog W .any base t v := hval0
  have hsz : (DataW.weightsEach Try.prog (Try.f4.params.toList ++ Rows.washSievesSpec.plain.varTypes Try.prog) (ds ++ gs)).all (· ≤ reachBytes) = true := hsz0
  have hW' := hW
  obtain ⟨p, q, hA0, hV, rfl, hfz, hnd⟩ := hW
  have hA : DataW.TrodAll enc Try.prog W 0 (fun _ => true) true Try.f4.params.toList args.toList ds p := hA0
  rw [Try.params4] at hA hval hsz
  obtain ⟨v0, vs0, d0, ds0, p0, q0, hargs, rfl, rfl, h0, r0⟩ := trodAll_cons hA
  obtain ⟨v1, vs1, d1, ds1, p1, q1, rfl, rfl, rfl, h1, r1⟩ := trodAll_cons r0
  obtain ⟨rfl, rfl, rfl⟩ := trodAll_nil r1
  obtain rfl : args = #[v0, v1] := by cases args; simp_all
  obtain ⟨rfl, rfl⟩ := trodVars_none hV
  have k0 := h0
  have lt0 : ∀ x ∈ p0, x.block < W.heap.size := by obtain ⟨m, hm⟩ := k0; exact DataW.trod_lt m _ _ _ hm
  have k1 := h1
  have lt1 : ∀ x ∈ p1, x.block < W.heap.size := by obtain ⟨m, hm⟩ := k1; exact DataW.trod_lt m _ _ _ hm
  have hr0 : ∀ es sp, d0 = .slice es sp → (es.length + sp.length) * 16 ≤ reachN := by
    intro es sp hd
    have := sized_slice (elems := es) (spare := sp) hsz (j := 0) (t := 22) (e := 58) rfl (by rw [hd]; rfl) Try.underlying22
    rw [bytesGrain] at this
    exact this
  obtain ⟨A0, n0, c0, zs0, rfl, a0⟩ := open_arg2 (hval 0 22 v0 rfl rfl) h0 hr0
  obtain ⟨x1, rfl, rfl, rfl, w1⟩ := open_int Try.underlying3 (hval 1 3 v1 rfl rfl) h1
  clear hA0 hval0
  refine (walk A0 n0 c0 zs0 x1 W a0).mono fun e W' ⟨he, bel⟩ => ?_
  subst he
  exact ⟨_, rfl, _, _, _, [], _, [], hW', trodAll_mk1 (shut_bool Try.underlying4 _), trodAll_cons_mk (Below.trod laidOut (by kernel_rfl) (of_decide_eq_true (by kernel_rfl)) k0 bel lt0) (trodAll_cons_mk (shut_int Try.underlying3 w1) (trodAll_mk0)), rfl, Below.frame bel _, fun h => by cases h⟩

theorem over : Rows.washSievesRow.holds Try.pinned (OpenSpec.ofChange Rows.washSievesSpec) :=
  OpenClaim.holds_of_wide 4 Try.f4 rfl rfl rfl rfl rfl rfl rfl ⟨rfl, rfl, rfl, rfl, rfl⟩ rfl rfl rfl rfl rfl (by kernel_rfl) Try.func4 (by kernel_rfl)
    (of_decide_eq_true (by kernel_rfl)) (by unfold Func.isWrapper; rw [if_neg (of_decide_eq_false (by kernel_rfl))]; exact ⟨rfl, rfl⟩)
    (fun os started H enc _ => lifted os started H enc)

/-- The statement. -/
theorem proved : Rows.WashSievesSaid := over
end Go.Proofs.Ytnlcndhbamcpdaa.washSieves
