/- strike.Validate. -/
import Derived.Test.YtfjegdejfccgaaaH
namespace Go.Proofs.Ytfjegdejfccgaaa
open Go.RowKit

/-- Is a compound right, with so many elements? -/
def okRowB (E : Nat) (r : List Int) : Bool := listB 0 9 r E && !(maxI r == 0)
def okSB (X Y : List (List Int)) : Bool := sideB X.length && (sideB Y.length && (inB 1 4 (elN X) && (X ++ Y).all (okRowB (elN X))))
/-- The error of a strike. -/
def errS (X Y : List (List Int)) : Int := if okSB X Y then 0 else 1
theorem errS_x {X Y : List (List Int)} (h : sideB X.length = false) : errS X Y = 1 := by unfold errS okSB; rw [h]; rfl
theorem errS_y {X Y : List (List Int)} (h : sideB Y.length = false) : errS X Y = 1 := by
  unfold errS okSB; rw [h]
  cases sideB X.length <;> rfl
theorem errS_e {X Y : List (List Int)} (h : inB 1 4 (elN X) = false) : errS X Y = 1 := by
  unfold errS okSB; rw [h]
  cases sideB X.length <;> cases sideB Y.length <;> rfl
theorem errS_r {X Y : List (List Int)} {r : List Int} (hr : r ∈ X ++ Y) (h : okRowB (elN X) r = false) : errS X Y = 1 := by
  have : (X ++ Y).all (okRowB (elN X)) = false := by
    rw [Bool.eq_false_iff]
    intro e
    rw [List.all_eq_true.1 e r hr] at h
    cases h
  unfold errS okSB; rw [this]
  cases sideB X.length <;> cases sideB Y.length <;> cases inB 1 4 (elN X) <;> rfl
theorem errS_ok {X Y : List (List Int)} (h1 : sideB X.length = true) (h2 : sideB Y.length = true) (h3 : inB 1 4 (elN X) = true) (h4 : ∀ (j : Nat) (r : List Int), (X ++ Y)[j]? = some r → okRowB (elN X) r = true) : errS X Y = 0 := by
  have : (X ++ Y).all (okRowB (elN X)) = true := List.all_eq_true.2 fun r hr => by
    obtain ⟨j, hj⟩ := List.mem_iff_getElem?.1 hr
    exact h4 j r hj
  unfold errS okSB; rw [h1, h2, h3, this]; rfl
theorem errS_cases (X Y : List (List Int)) : errS X Y = 0 ∨ errS X Y = 1 := by unfold errS; split <;> simp
/-- A strike that is right. -/
structure Str (X Y : List (List Int)) (E : Nat) : Prop where
  x1 : 1 ≤ X.length
  x3 : X.length ≤ 3
  y1 : 1 ≤ Y.length
  y3 : Y.length ≤ 3
  el : elN X = E
  e1 : 1 ≤ E
  e4 : E ≤ 4
  rows : ∀ r ∈ X ++ Y, r.length = E ∧ (∀ a ∈ r, 0 ≤ a ∧ a ≤ 9) ∧ maxI r ≠ 0
theorem str_of {X Y : List (List Int)} (h : errS X Y = 0) : Str X Y (elN X) := by
  cases hb : okSB X Y with
  | false => unfold errS at h; rw [hb] at h; cases h
  | true =>
    unfold okSB at hb
    simp only [Bool.and_eq_true] at hb
    obtain ⟨h1, h2, h3, h4⟩ := hb
    have k1 := of_decide_eq_true h1
    have k2 := of_decide_eq_true h2
    have k3 := inB_yes h3
    refine ⟨k1.1, k1.2, k2.1, k2.2, rfl, by omega, by omega, fun r hr => ?_⟩
    have h5 := List.all_eq_true.1 h4 r hr
    unfold okRowB at h5
    rw [Bool.and_eq_true] at h5
    obtain ⟨a, b⟩ := listB_yes h5.1
    exact ⟨by omega, a, by simpa using h5.2⟩
set_option maxRecDepth 100000 in
set_option maxHeartbeats 1000000 in
theorem validate_any (A B : Option Addr) (n c m d : Nat) (X Y : List (List Int)) (w : World) (hS : Strk w A n B m X Y) :
    Calls Try.prog 39 #[.agg #[.slice A n c, .slice B m d]] w fun e w' => e = .returned (.int .i64 (errS X Y)) ∧ Bel w w' := by
  have HSX := Lib.hid hS.lx
  have HSY := Lib.hid hS.ly
  cases hx : sideB n with
  | false =>
    have HX := Lib.hid hx
    have HF := Lib.hid (errS_x (X := X) (Y := Y) (by rw [HSX.out]; exact hx))
    clear hx
    go_enter Try.func39, Try.ntmps39
    go_wp2_with fail
    refine (isSide_any A n c _).mono ?_
    rintro e w1 ⟨rfl, rfl⟩
    rw [HX.out]
    go_wp2
    go_ret
    exact ⟨ret_int HF.out.symm, by (repeat (first | exact Bel.refl _ | assumption | refine Bel.drew ?_ | refine Bel.drewN ?_ _ | refine Bel.alloc ?_ _ | refine Bel.setCell ?_ (by first | omega | (simp; done) | (simp; omega) | (simp at *; omega)) _ | refine Bel.trans ?_ (by assumption)))⟩
  | true =>
    cases hy : sideB m with
    | false =>
      have HX := Lib.hid hx
      have HY := Lib.hid hy
      have HF := Lib.hid (errS_y (X := X) (Y := Y) (by rw [HSY.out]; exact hy))
      clear hx hy
      go_enter Try.func39, Try.ntmps39
      go_wp2_with fail
      refine (isSide_any A n c _).mono ?_
      rintro e w1 ⟨rfl, rfl⟩
      rw [HX.out]
      go_wp2_with fail
      refine (isSide_any B m d _).mono ?_
      rintro e w1 ⟨rfl, rfl⟩
      rw [HY.out]
      go_wp2
      go_ret
      exact ⟨ret_int HF.out.symm, by (repeat (first | exact Bel.refl _ | assumption | refine Bel.drew ?_ | refine Bel.drewN ?_ _ | refine Bel.alloc ?_ _ | refine Bel.setCell ?_ (by first | omega | (simp; done) | (simp; omega) | (simp at *; omega)) _ | refine Bel.trans ?_ (by assumption)))⟩
    | true =>
      have HX := Lib.hid hx
      have HY := Lib.hid hy
      have kx := of_decide_eq_true hx
      have ky := of_decide_eq_true hy
      have Held := Lib.hid (fun w' (h : Bel (w.alloc (.cells #[.slice A n c, .slice B m d] 24)) w') => box_sl h)
      obtain ⟨n1, n3⟩ := kx
      obtain ⟨m1, m3⟩ := ky
      have HFE := Lib.hid (fun (h : inB 1 4 (elN X) = false) => errS_e (X := X) (Y := Y) h)
      have HFR := Lib.hid (fun (r : List Int) (hr : r ∈ X ++ Y) (h : okRowB (elN X) r = false) => errS_r hr h)
      have HFO := Lib.hid (fun h3 h4 => errS_ok (X := X) (Y := Y) (by rw [HSX.out]; exact hx) (by rw [HSY.out]; exact hy) h3 h4)
      obtain ⟨E, hE⟩ : ∃ E, E = elN X := ⟨_, rfl⟩
      rw [← hE] at HFE HFR HFO
      have HE := Lib.hid hE
      clear hx hy hE
      go_enter Try.func39, Try.ntmps39
      go_wp2_with fail
      refine (isSide_any A n c _).mono ?_
      rintro e w1 ⟨rfl, rfl⟩
      rw [HX.out]
      go_wp2_with fail
      refine (isSide_any B m d _).mono ?_
      rintro e w1 ⟨rfl, rfl⟩
      rw [HY.out]
      go_wp2_with fail
      refine (elementsOf_any A B n c m d X _ (hS.tx.bel (by (repeat (first | exact Bel.refl _ | assumption | refine Bel.drew ?_ | refine Bel.drewN ?_ _ | refine Bel.alloc ?_ _ | refine Bel.setCell ?_ (by first | omega | (simp; done) | (simp; omega) | (simp at *; omega)) _ | refine Bel.trans ?_ (by assumption))))) HSX.out n1).mono ?_
      rintro e w1 ⟨rfl, hb1⟩
      rw [← HE.out]
      obtain ⟨b0, b1⟩ := Held.out _ hb1
      by_cases h1 : 1 ≤ E
      · have i1 : (1 : Int) ≤ (E : Int) := by omega
        by_cases h4 : E ≤ 4
        · have i4 : (E : Int) ≤ 4 := by omega
          go_wp2_with fail
          refine (compoundsOf_any A B n c m d X Y _ (hS.bel (((Bel.refl w).alloc _).trans hb1)) n1 (by omega) m1 (by omega)).mono ?_
          rintro e w3 ⟨A3, n3', c3, rfl, hn3, hb3, hT3⟩
          have HN3 := Lib.hid hn3
          have hl6 : n3' ≤ 6 := by rw [hn3, List.length_append, HSX.out, HSY.out]; omega
          have hl6i : (n3' : Int) ≤ 6 := by omega
          clear hn3 b0 b1
          have hw3 : Bel w w3 := ((Bel.refl w).alloc _).trans (hb1.trans hb3)
          go_wp2
          go_loop [27] (fun i => ∃ k : Nat, k ≤ n3' ∧ i = .int .i64 k ∧ ∀ (j : Nat) (r : List Int), j < k → (X ++ Y)[j]? = some r → okRowB E r = true) (fun i => n3' - (intOf i).toNat)
          case atStart => exact ⟨0, Nat.zero_le _, rfl, fun j u hj => by omega⟩
          case round =>
            obtain ⟨k, hk, rfl, hb⟩ := hrel
            have HB := Lib.hid hb
            clear hb
            by_cases hlt : k < n3'
            · obtain ⟨b, o, r, A', n', c', rfl, hbl, hg, hcell, hI, hl, hmm⟩ := hT3.at_ (k := k) (by rw [← HN3.out]; exact hlt)
              have HG := Lib.hid hg
              have HL := Lib.hid hl
              clear hg hl
              cases hlb : listB 0 9 r (E : Int) with
              | false =>
                have HLB := Lib.hid hlb
                have HF := Lib.hid (HFR.out r (List.mem_of_getElem? HG.out) (by unfold okRowB; rw [hlb]; rfl))
                clear hlb
                go_wp2_with fail
                refine (areWithin_any A' n' c' r E 0 9 _ hI HL.out hmm).mono ?_
                rintro e w4 ⟨rfl, rfl⟩
                rw [HLB.out]
                go_wp2
                go_ret
                exact ⟨ret_int HF.out.symm, hw3⟩
              | true =>
                have HLB := Lib.hid hlb
                have hn' : 1 ≤ n' := by have := (listB_yes hlb).2; rw [HL.out] at this; omega
                by_cases hz : maxI r = 0
                · have HZ := Lib.hid hz
                  have HF := Lib.hid (HFR.out r (List.mem_of_getElem? HG.out) (by unfold okRowB; rw [hz]; simp))
                  clear hlb hz
                  go_wp2_with fail
                  refine (areWithin_any A' n' c' r E 0 9 _ hI HL.out hmm).mono ?_
                  rintro e w4 ⟨rfl, rfl⟩
                  rw [HLB.out]
                  go_wp2_with fail
                  refine (max_any A' n' c' r _ hI HL.out hn' hmm).mono ?_
                  rintro e w4 ⟨rfl, rfl⟩
                  rw [HZ.out]
                  go_wp2
                  go_ret
                  exact ⟨ret_int HF.out.symm, hw3⟩
                · have HZ := Lib.hid hz
                  have HO := Lib.hid (show okRowB E r = true by unfold okRowB; rw [hlb]; simpa using hz)
                  clear hlb
                  obtain ⟨v, hv⟩ : ∃ v, v = maxI r := ⟨_, rfl⟩
                  rw [← hv] at hz
                  have HV := Lib.hid hv
                  have hvz : (v == 0) = false := by simpa using hz
                  clear hv hz
                  go_wp2_with fail
                  refine (areWithin_any A' n' c' r E 0 9 _ hI HL.out hmm).mono ?_
                  rintro e w4 ⟨rfl, rfl⟩
                  rw [HLB.out]
                  go_wp2_with fail
                  refine (max_any A' n' c' r _ hI HL.out hn' hmm).mono ?_
                  rintro e w4 ⟨rfl, rfl⟩
                  rw [← HV.out]
                  go_wp2
                  go_round
                  case rel => exact ⟨k + 1, by omega, by go_num, fun j u hj hu => by
                    rcases (by omega : j < k ∨ j = k) with h | rfl
                    · exact HB.out j u h hu
                    · rw [HG.out] at hu; injection hu with hu; rw [← hu]; exact HO.out⟩
                  case measure => simp [intOf]; omega
            · obtain rfl : k = n3' := by omega
              have HF := Lib.hid (HFO.out (decide_eq_true ⟨i1, i4⟩) (fun j r hj => HB.out j r (by rw [HN3.out]; exact (List.getElem?_eq_some_iff.1 hj).1) hj))
              go_wp2
              go_ret
              exact ⟨ret_int HF.out.symm, hw3⟩
        · have i4 : 4 < (E : Int) := by omega
          have HF := Lib.hid (HFE.out (decide_eq_false (by omega)))
          clear h4
          go_wp2
          go_ret
          exact ⟨ret_int HF.out.symm, by (repeat (first | exact Bel.refl _ | assumption | refine Bel.drew ?_ | refine Bel.drewN ?_ _ | refine Bel.alloc ?_ _ | refine Bel.setCell ?_ (by first | omega | (simp; done) | (simp; omega) | (simp at *; omega)) _ | refine Bel.trans ?_ (by assumption)))⟩
      · have i1 : (E : Int) < 1 := by omega
        have HF := Lib.hid (HFE.out (decide_eq_false (by omega)))
        clear h1
        go_wp2
        go_ret
        exact ⟨ret_int HF.out.symm, by (repeat (first | exact Bel.refl _ | assumption | refine Bel.drew ?_ | refine Bel.drewN ?_ _ | refine Bel.alloc ?_ _ | refine Bel.setCell ?_ (by first | omega | (simp; done) | (simp; omega) | (simp at *; omega)) _ | refine Bel.trans ?_ (by assumption)))⟩
end Go.Proofs.Ytfjegdejfccgaaa
