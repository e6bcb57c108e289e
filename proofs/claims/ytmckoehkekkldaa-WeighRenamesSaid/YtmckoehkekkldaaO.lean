/- Bad and Tells of the program. -/
import Derived.Test.YtmckoehkekkldaaM
import Derived.Test.YtmckoehkekkldaaN
namespace Go.Proofs.Ytmckoehkekkldaa
open Go.RowKit

/-- Do the cases at two places prove that the plan does not tell? -/
def badAt (P : List Wg) (i j : Nat) : Bool := badB P (lotN i : Int) (wayN i) (lotN j : Int) (wayN j)
/-- What Bad finds: the first two cases. -/
def NoBad (P : List Wg) (n : Nat) : Prop := ∀ i j, i ≤ j → j < n * 2 → badAt P i j = false
/-- A case as a value. -/
abbrev CV (i : Nat) : Value := .agg #[.int .i64 (lotN i : Int), .int .i64 (wayN i)]
def BadV (P : List Wg) (n : Nat) (e : Ending) : Prop :=
  (∃ i j, i ≤ j ∧ j < n * 2 ∧ badAt P i j = true ∧ e = .returned (.tuple #[CV i, CV j, .bool true, .int .i64 0]))
  ∨ (NoBad P n ∧ e = .returned (.tuple #[.agg #[.int .i64 0, .int .i64 0], .agg #[.int .i64 0, .int .i64 0], .bool false, .int .i64 0]))
theorem Prs.case {w : World} {A : Option Addr} {n i : Nat} (h : Prs w A (casesL n)) (hi : i < n * 2) : ∃ b o, A = some ⟨b, o, none⟩ ∧ b < w.heap.size ∧ w.cell? ⟨b, o + i * 2, none⟩ = some (.int .i64 (lotN i : Int)) ∧ w.cell? ⟨b, o + i * 2 + 1, none⟩ = some (.int .i64 (wayN i)) := by
  obtain ⟨b, o, s, m, rfl, hb, hg, h1, h2⟩ := h.at_ (k := i) (by rw [casesL_length]; exact hi)
  rw [casesL_at n i hi] at hg
  injection hg with hg
  injection hg with e1 e2
  subst e1 e2
  exact ⟨b, o, rfl, hb, h1, h2⟩
/-- Two cases, stored. -/
abbrev put22 (w : World) (g h : Nat) (a b c d : Int) : World := (((w.setCell ⟨g, 0, none⟩ (.int .i64 a)).setCell ⟨g, 1, none⟩ (.int .i64 b)).setCell ⟨h, 0, none⟩ (.int .i64 c)).setCell ⟨h, 1, none⟩ (.int .i64 d)
theorem two_rows {w : World} {g h : Nat} {f k : Nat → Int} (h0 : Row w g 2 2 f) (h1 : Row w h 2 2 k) (hne : g ≠ h) (a b c d : Int) :
    ((put22 w g h a b c d).cell? ⟨g, 0, none⟩ = some (.int .i64 a) ∧ (put22 w g h a b c d).cell? ⟨g, 1, none⟩ = some (.int .i64 b)) ∧ (put22 w g h a b c d).cell? ⟨h, 0, none⟩ = some (.int .i64 c) ∧ (put22 w g h a b c d).cell? ⟨h, 1, none⟩ = some (.int .i64 d) := by
  have r0 := (((((h0.put (i := 0) (by omega) a).put (i := 1) (by omega) b).far (p := ⟨h, 0, none⟩) hne (.int .i64 c)).far (p := ⟨h, 1, none⟩) hne (.int .i64 d)))
  have r1 := (((((h1.far (p := ⟨g, 0, none⟩) (Ne.symm hne) (.int .i64 a)).far (p := ⟨g, 1, none⟩) (Ne.symm hne) (.int .i64 b)).put (i := 0) (by omega) c).put (i := 1) (by omega) d))
  have a0 := r0.cells 0 (by omega); have a1 := r0.cells 1 (by omega); have a2 := r1.cells 0 (by omega); have a3 := r1.cells 1 (by omega)
  simp only [Nat.zero_ne_one, Nat.one_ne_zero, if_true, if_false] at a0 a1 a2 a3
  exact ⟨⟨a0, a1⟩, a2, a3⟩
theorem two_bel {w0 w : World} {g h : Nat} (hb : Bel w0 w) (hg : w0.heap.size ≤ g) (hh : w0.heap.size ≤ h) (a b c d : Int) : Bel w0 (put22 w g h a b c d) :=
  ((((hb.setCell (p := ⟨g, 0, none⟩) hg _).setCell (p := ⟨g, 1, none⟩) hg _).setCell (p := ⟨h, 0, none⟩) hh _).setCell (p := ⟨h, 1, none⟩) hh _)
set_option maxRecDepth 100000 in
set_option maxHeartbeats 4000000 in
theorem bad_ok (lo n : Nat) (A : Option Addr) (m c : Nat) (P : List Wg) (w : World) (hR : Plan lo w A P) (hm : P.length = m) (hG : Good n P) :
    Calls Try.prog 59 #[.int .i64 (n : Int), .slice A m c] w fun e w' => BadV P n e ∧ Bel w w' := by
  have Hm := Lib.hid hm; have HGo := Lib.hid hG; have HE := Lib.hid hG.err
  have hn13 := hG.le
  have hn1 := hG.pos
  clear hm hG
  go_enter Try.func59, Try.ntmps59
  go_wp2_with (first | (go_at_call 43; refine (validate_any lo n A m c P _ (hR.bel (by (repeat (first | exact Bel.refl _ | assumption | refine Bel.drew ?_ | refine Bel.drewN ?_ _ | refine Bel.alloc ?_ _ | refine Bel.setCell ?_ (by first | omega | (simp; done) | (simp; omega) | (simp at *; omega)) _ | refine Bel.trans ?_ (by assumption))))) Hm.out).mono ?_; rintro e w1 ⟨rfl, hb1⟩; rw [HE.out]) | (go_at_call 80; refine (marksOf_any lo n A m c P _ (hR.bel (by (repeat (first | exact Bel.refl _ | assumption | refine Bel.drew ?_ | refine Bel.drewN ?_ _ | refine Bel.alloc ?_ _ | refine Bel.setCell ?_ (by first | omega | (simp; done) | (simp; omega) | (simp at *; omega)) _ | refine Bel.trans ?_ (by assumption))))) Hm.out HGo.out).mono ?_; rintro e w2 ⟨gm, rfl, hgm, hb2, hM⟩) | (go_at_call 90; refine (allCases_any n _ hn13).mono ?_; rintro e w3 ⟨Ac, cc, rfl, hcap, hb3, hCs⟩))
  have hs1 := hb1.size; have hs2 := hb2.size; have hs3 := hb3.size
  simp at hs1
  have hBw : Bel w w3 := by (repeat (first | exact Bel.refl _ | assumption | refine Bel.drew ?_ | refine Bel.drewN ?_ _ | refine Bel.alloc ?_ _ | refine Bel.setCell ?_ (by first | omega | (simp; done) | (simp; omega) | (simp at *; omega)) _ | refine Bel.trans ?_ (by assumption)))
  have hr0 : Row w3 w.heap.size 2 2 (fun _ => 0) := ((((Row.whole w #[.int .i64 0, .int .i64 0] 24 2 (fun _ => 0) (by intro i hi; rcases (by omega : i = 0 ∨ i = 1) with rfl | rfl <;> rfl)).alloc _).bel hb1).bel hb2).bel hb3
  have hr1 : Row w3 (w.heap.size + 1) 2 2 (fun _ => 0) := by
    have := ((((Row.whole (w.alloc (.cells #[.int .i64 0, .int .i64 0] 24)) #[.int .i64 0, .int .i64 0] 24 2 (fun _ => 0) (by intro i hi; rcases (by omega : i = 0 ∨ i = 1) with rfl | rfl <;> rfl))).bel hb1).bel hb2).bel hb3
    rw [World.size_alloc] at this
    exact this
  have hM3 : Marks w3 gm n P := Row.bel hM hb3
  clear hM hb1 hb2 hb3
  have hn2i : ((n * 2 : Nat) : Int) ≤ 26 := by omega
  go_loopw [11, 12, 14, 30] (fun _ _ _ i wr => ∃ k : Nat, k ≤ n * 2 ∧ i = .int .i64 k ∧ Bel w3 wr ∧ ∀ i j, i < k → i ≤ j → j < n * 2 → badAt P i j = false) (fun _ _ _ i _ => n * 2 - (intOf i).toNat)
  case atStart => exact ⟨0, Nat.zero_le _, rfl, Bel.refl _, fun i j h => by omega⟩
  case round =>
    obtain ⟨k, hk, rfl, hb, hno⟩ := hrel
    have HNO := Lib.hid hno
    clear hno
    by_cases hlt : k < n * 2
    · obtain ⟨bc, oc, rfl, hbc, c1, c2⟩ := hCs.case hlt
      have hki : (k : Int) < (n : Int) * 2 := by omega
      have hk0 : (0 : Int) ≤ (k : Int) := by omega
      have d1 : wr.cell? ⟨bc, oc + k * 2, none⟩ = some (.int .i64 (lotN k : Int)) := by rw [hb.use.1 _ _ hbc]; exact c1
      have d2 : wr.cell? ⟨bc, oc + k * 2 + 1, none⟩ = some (.int .i64 (wayN k)) := by rw [hb.use.1 _ _ hbc]; exact c2
      obtain ⟨wo, hwo⟩ : ∃ wo : World, wo = wr := ⟨_, rfl⟩
      subst hwo
      clear c1 c2
      have hne : ¬ cc = k := by omega
      have hki2 : (k : Int) ≤ ((n * 2 : Nat) : Int) := by omega
      have hsub : ((n * 2 : Nat) : Int) - (k : Int) = ((n * 2 - k : Nat) : Int) := by omega
      have hwsz := hb.size
      go_wp2
      go_loopw [14, 39] (fun _ i wr => ∃ q : Nat, q ≤ n * 2 - k ∧ i = .int .i64 q ∧ Bel wo wr ∧ (wr.cell? ⟨wo.heap.size, 0, none⟩ = some (.int .i64 (lotN k : Int)) ∧ wr.cell? ⟨wo.heap.size, 1, none⟩ = some (.int .i64 (wayN k))) ∧ wo.heap.size < wr.heap.size ∧ ∀ j, k ≤ j → j < k + q → badAt P k j = false) (fun _ i _ => n * 2 - k - (intOf i).toNat)
      case atStart => exact ⟨0, Nat.zero_le _, rfl, by (repeat (first | exact Bel.refl _ | assumption | refine Bel.drew ?_ | refine Bel.drewN ?_ _ | refine Bel.alloc ?_ _ | refine Bel.setCell ?_ (by first | omega | (simp; done) | (simp; omega) | (simp at *; omega)) _ | refine Bel.trans ?_ (by assumption))), ⟨by simp, by simp⟩, by simp, fun j h1 h2 => by omega⟩
      case round =>
        clear d1 d2
        obtain ⟨q, hq, rfl, hbq, ⟨e1, e2⟩, hwq, hnq⟩ := hrel
        have HNQ := Lib.hid hnq
        clear hnq
        by_cases hql : q < n * 2 - k
        · obtain ⟨bc', oc', hA, -, c1, c2⟩ := hCs.case (i := k + q) (by omega)
          obtain ⟨rfl, rfl⟩ : bc = bc' ∧ oc = oc' := by simpa using hA
          have d1 : wr.cell? ⟨bc, oc + k * 2 + q * 2, none⟩ = some (.int .i64 (lotN (k + q) : Int)) := by rw [show oc + k * 2 + q * 2 = oc + (k + q) * 2 from by omega, (hb.trans hbq).use.1 _ _ hbc]; exact c1
          have d2 : wr.cell? ⟨bc, oc + k * 2 + q * 2 + 1, none⟩ = some (.int .i64 (wayN (k + q))) := by rw [show oc + k * 2 + q * 2 + 1 = oc + (k + q) * 2 + 1 from by omega, (hb.trans hbq).use.1 _ _ hbc]; exact c2
          have hqi : (q : Int) < ((n * 2 - k : Nat) : Int) := by omega
          have hx1 : lotN k < n := by unfold lotN; omega
          have hx2 : lotN (k + q) < n := by unfold lotN; omega
          clear c1 c2 hA
          go_wp2_with fail
          refine (isBad_any gm n n (lotN k) (lotN (k + q)) (wayN k) (wayN (k + q)) P _ ?_ hx1 hx2 (wayN_or _) (wayN_or _)).mono ?_
          · exact Row.bel hM3 (by (repeat (first | exact Bel.refl _ | assumption | refine Bel.drew ?_ | refine Bel.drewN ?_ _ | refine Bel.alloc ?_ _ | refine Bel.setCell ?_ (by first | omega | (simp; done) | (simp; omega) | (simp at *; omega)) _ | refine Bel.trans ?_ (by assumption))))
          rintro e w4 ⟨rfl, hb4⟩
          have hbb : badB P (lotN k : Int) (wayN k) (lotN (k + q) : Int) (wayN (k + q)) = badAt P k (k + q) := rfl
          rw [hbb]
          clear d1 d2 hbb
          cases hbad : badAt P k (k + q)
          · have HS : Hid (∀ j, k ≤ j → j < k + (q + 1) → badAt P k j = false) := fun j h1 h2 => by
              rcases (by omega : j < k + q ∨ j = k + q) with h | rfl
              · exact HNQ.out j h1 h
              · exact hbad
            have hbk : Bel wr w4 := by (repeat (first | exact Bel.refl _ | assumption | refine Bel.drew ?_ | refine Bel.drewN ?_ _ | refine Bel.alloc ?_ _ | refine Bel.setCell ?_ (by first | omega | (simp; done) | (simp; omega) | (simp at *; omega)) _ | refine Bel.trans ?_ (by assumption)))
            have hs4 := hbk.size
            clear hbad
            go_wp2
            go_roundw
            case rel => exact ⟨q + 1, by omega, by go_num, by (repeat (first | exact Bel.refl _ | assumption | refine Bel.drew ?_ | refine Bel.drewN ?_ _ | refine Bel.alloc ?_ _ | refine Bel.setCell ?_ (by first | omega | (simp; done) | (simp; omega) | (simp at *; omega)) _ | refine Bel.trans ?_ (by assumption))), ⟨by rw [hbk.use.1 _ _ hwq]; exact e1, by rw [hbk.use.1 _ _ hwq]; exact e2⟩, by omega, HS.out⟩
            case measure => simp [intOf]; omega
          · have hbx : Bel wr w4 := by (repeat (first | exact Bel.refl _ | assumption | refine Bel.drew ?_ | refine Bel.drewN ?_ _ | refine Bel.alloc ?_ _ | refine Bel.setCell ?_ (by first | omega | (simp; done) | (simp; omega) | (simp at *; omega)) _ | refine Bel.trans ?_ (by assumption)))
            have hbk : Bel w3 w4 := by (repeat (first | exact Bel.refl _ | assumption | refine Bel.drew ?_ | refine Bel.drewN ?_ _ | refine Bel.alloc ?_ _ | refine Bel.setCell ?_ (by first | omega | (simp; done) | (simp; omega) | (simp at *; omega)) _ | refine Bel.trans ?_ (by assumption)))
            have hx := hBw.size
            obtain ⟨x0, x1⟩ : w4.cell? ⟨wo.heap.size, 0, none⟩ = some (.int .i64 (lotN k : Int)) ∧ w4.cell? ⟨wo.heap.size, 1, none⟩ = some (.int .i64 (wayN k)) := by
              exact ⟨by rw [hbx.use.1 _ _ hwq]; exact e1, by rw [hbx.use.1 _ _ hwq]; exact e2⟩
            obtain ⟨x2, x3⟩ := box_case hb4
            have hk0' := (hr0.bel hbk).cells 0 (by omega); have hk1' := (hr0.bel hbk).cells 1 (by omega)
            have hk2' := (hr1.bel hbk).cells 0 (by omega); have hk3' := (hr1.bel hbk).cells 1 (by omega)
            have hz0 := (hr0.bel hbk).fz 0; have hz1 := (hr0.bel hbk).fz 1
            have hz2 := (hr1.bel hbk).fz 0; have hz3 := (hr1.bel hbk).fz 1
            have hBA := Lib.hid hbad
            clear hbad
            have hl0 := (hr0.bel hbk).lt; have hl1 := (hr1.bel hbk).lt
            have HQ := Lib.hid (two_rows (hr0.bel hbk) (hr1.bel hbk) (by omega) (lotN k : Int) (wayN k) (lotN (k + q) : Int) (wayN (k + q)))
            have HB := Lib.hid (two_bel (hBw.trans hbk) (show w.heap.size ≤ w.heap.size from Nat.le_refl _) (show w.heap.size ≤ w.heap.size + 1 by omega) (lotN k : Int) (wayN k) (lotN (k + q) : Int) (wayN (k + q)))
            go_wp2
            go_region
            go_wp2
            obtain ⟨⟨e3, e4⟩, ⟨e5, e6⟩⟩ := HQ.out
            exact bodyPost_ret (v := .tuple #[CV k, CV (k + q), .bool true, .int .i64 0]) (by simp [results, Try.results59, go_sem, e3, e4, e5, e6]) rfl ⟨.inl ⟨k, k + q, by omega, by omega, hBA.out, rfl⟩, HB.out.drew⟩
        · have HS : Hid (∀ i j, i < k + 1 → i ≤ j → j < n * 2 → badAt P i j = false) := fun i j h1 h2 h3 => by
            rcases (by omega : i < k ∨ i = k) with h | rfl
            · exact HNO.out i j h h2 h3
            · exact HNQ.out j h2 (by omega)
          obtain rfl : q = n * 2 - k := by omega
          go_wp2
          go_roundw
          case rel => exact ⟨k + 1, by omega, by go_num, by (repeat (first | exact Bel.refl _ | assumption | refine Bel.drew ?_ | refine Bel.drewN ?_ _ | refine Bel.alloc ?_ _ | refine Bel.setCell ?_ (by first | omega | (simp; done) | (simp; omega) | (simp at *; omega)) _ | refine Bel.trans ?_ (by assumption))), HS.out⟩
          case measure => simp [intOf]; omega
    · obtain rfl : k = n * 2 := by omega
      have hk0' := (hr0.bel hb).cells 0 (by omega); have hk1' := (hr0.bel hb).cells 1 (by omega)
      have hk2' := (hr1.bel hb).cells 0 (by omega); have hk3' := (hr1.bel hb).cells 1 (by omega)
      have hz0 := (hr0.bel hb).fz 0; have hz1 := (hr0.bel hb).fz 1
      have hz2 := (hr1.bel hb).fz 0; have hz3 := (hr1.bel hb).fz 1
      have hl0 := (hr0.bel hb).lt; have hl1 := (hr1.bel hb).lt
      have HQ := Lib.hid (two_rows (hr0.bel hb) (hr1.bel hb) (by omega) 0 0 0 0)
      have HB := Lib.hid (two_bel (hBw.trans hb) (show w.heap.size ≤ w.heap.size from Nat.le_refl _) (show w.heap.size ≤ w.heap.size + 1 by omega) 0 0 0 0)
      go_wp2
      exact bodyPost_ret (v := .tuple #[.agg #[.int .i64 0, .int .i64 0], .agg #[.int .i64 0, .int .i64 0], .bool false, .int .i64 0]) (by simp [results, Try.results59, go_sem, hk0', hk1', hk2', hk3']) rfl ⟨.inr ⟨fun i j h1 h2 => HNO.out i j (by omega) h1 h2, rfl⟩, HB.out⟩
end Go.Proofs.Ytmckoehkekkldaa
