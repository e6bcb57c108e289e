/- Errors of cases, by the program and by the document. -/
import Derived.Test.YtmckoehkekkldaaY
namespace Go.Proofs.Ytmckoehkekkldaa
open Go.RowKit

def lotOk (n : Int) (c : Int × Int) : Bool := decide (0 ≤ c.1 ∧ c.1 < n)
def wayOk (c : Int × Int) : Bool := decide (c.2 = 1 ∨ c.2 = -1)
/-- The error of lots, a plan and cases. -/
def errC (n : Int) (P : List Wg) (L : List (Int × Int)) : Int := if errV n P = 0 then (if L.all (lotOk n) = true then (if L.all wayOk = true then 0 else 1) else 4) else errV n P
theorem all_next {α : Type} {f : α → Bool} {l : List α} {k : Nat} {x : α} (h : (l.take k).all f = true) (hg : l[k]? = some x) (hx : f x = true) : (l.take (k + 1)).all f = true := by
  rw [take_at hg, List.all_append, h]
  simpa using hx
theorem all_no {α : Type} {f : α → Bool} {l : List α} {k : Nat} {x : α} (hg : l[k]? = some x) (hx : f x = false) : l.all f = false := by
  rw [List.all_eq_false]
  exact ⟨x, List.mem_of_getElem? hg, by simp [hx]⟩
theorem errC_bad {n : Int} {P : List Wg} {L : List (Int × Int)} (h : errV n P ≠ 0) : errC n P L = errV n P := by unfold errC; rw [if_neg h]
theorem errC_lot {n : Int} {P : List Wg} {L : List (Int × Int)} (h : errV n P = 0) (hl : L.all (lotOk n) = false) : errC n P L = 4 := by unfold errC; rw [if_pos h, hl]; rfl
theorem errC_way {n : Int} {P : List Wg} {L : List (Int × Int)} (h : errV n P = 0) (hl : L.all (lotOk n) = true) : errC n P L = if L.all wayOk = true then 0 else 1 := by unfold errC; rw [if_pos h, if_pos hl]
theorem errC_zero {n : Int} {P : List Wg} {L : List (Int × Int)} (h : errC n P L = 0) : errV n P = 0 ∧ L.all (lotOk n) = true ∧ L.all wayOk = true := by
  unfold errC at h
  split at h
  · rename_i h1
    split at h
    · rename_i h2
      split at h
      · rename_i h3
        exact ⟨h1, h2, h3⟩
      · cases h
    · cases h
  · rename_i h1
    exact absurd h h1

set_option maxRecDepth 100000 in
set_option maxHeartbeats 4000000 in
theorem vcases_any (lo : Nat) (n : Int) (A : Option Addr) (m c : Nat) (P : List Wg) (B : Option Addr) (q d : Nat) (L : List (Int × Int)) (w : World) (hR : Plan lo w A P) (hm : P.length = m) (hB : Prs w B L) (hq : L.length = q) (h9 : q ≤ 9) :
    Calls Try.prog 78 #[.int .i64 n, .slice A m c, .slice B q d] w fun e w' => e = .returned (.int .i64 (errC n P L)) ∧ Bel w w' := by
  have Hm := Lib.hid hm; have Hq := Lib.hid hq
  clear hm hq
  by_cases hE : errV n P = 0
  · have HE := Lib.hid hE
    have HL := Lib.hid (fun (hl : L.all (lotOk n) = false) => errC_lot hE hl)
    have HW := Lib.hid (fun (hl : L.all (lotOk n) = true) => errC_way (L := L) hE hl)
    clear hE
    go_enter Try.func78, Try.ntmps78
    go_wp2_with (go_at_call 43; refine (validate_any lo n A m c P _ hR Hm.out).mono ?_; rintro e w1 ⟨rfl, hb1⟩; rw [HE.out])
    go_loopw [9, 20] (fun _ i wr => ∃ k : Nat, k ≤ q ∧ i = .int .i64 k ∧ Bel w wr ∧ (L.take k).all (lotOk n) = true) (fun _ i _ => q - (intOf i).toNat)
    case atStart => exact ⟨0, Nat.zero_le _, rfl, hb1, rfl⟩
    case round =>
      obtain ⟨k, hk, rfl, hb, hall⟩ := hrel
      have HA := Lib.hid hall
      clear hall
      by_cases hlt : k < q
      · obtain ⟨b, o, x, y, rfl, hbl, hg, c1, c2⟩ := (hB.bel hb).at_ (k := k) (by rw [Hq.out]; exact hlt)
        have HG := Lib.hid hg
        have hki : (k : Int) < (q : Int) := by omega
        clear hg
        by_cases h0 : x < 0
        · have HF := Lib.hid (HL.out (all_no HG.out (decide_eq_false (by simp only; omega))))
          go_wp2
          go_ret
          exact ⟨ret_int HF.out.symm, by (repeat (first | exact Bel.refl _ | assumption | refine Bel.drew ?_ | refine Bel.drewN ?_ _ | refine Bel.alloc ?_ _ | refine Bel.setCell ?_ (by first | omega | (simp; done) | (simp; omega) | (simp at *; omega)) _ | refine Bel.trans ?_ (by assumption)))⟩
        · by_cases h1 : x ≥ n
          · have HF := Lib.hid (HL.out (all_no HG.out (decide_eq_false (by simp only; omega))))
            go_wp2
            go_ret
            exact ⟨ret_int HF.out.symm, by (repeat (first | exact Bel.refl _ | assumption | refine Bel.drew ?_ | refine Bel.drewN ?_ _ | refine Bel.alloc ?_ _ | refine Bel.setCell ?_ (by first | omega | (simp; done) | (simp; omega) | (simp at *; omega)) _ | refine Bel.trans ?_ (by assumption)))⟩
          · have HS := Lib.hid (all_next HA.out HG.out (show lotOk n (x, y) = true from decide_eq_true (by simp only; omega)))
            go_wp2
            go_roundw
            case rel => exact ⟨k + 1, by omega, by go_num, by (repeat (first | exact Bel.refl _ | assumption | refine Bel.drew ?_ | refine Bel.drewN ?_ _ | refine Bel.alloc ?_ _ | refine Bel.setCell ?_ (by first | omega | (simp; done) | (simp; omega) | (simp at *; omega)) _ | refine Bel.trans ?_ (by assumption))), HS.out⟩
            case measure => simp [intOf]; omega
      · obtain rfl : k = q := by omega
        have HX : Hid (L.all (lotOk n) = true) := by
          have := HA.out
          rw [List.take_of_length_le (by rw [Hq.out]; omega)] at this
          exact this
        have HV := Lib.hid (HW.out HX.out)
        clear HA HL
        go_wp2
        go_loopw [11, 36] (fun _ i wr => ∃ p : Nat, p ≤ k ∧ i = .int .i64 p ∧ Bel w wr ∧ (L.take p).all wayOk = true) (fun _ i _ => k - (intOf i).toNat)
        case atStart => exact ⟨0, Nat.zero_le _, rfl, hb, rfl⟩
        case round =>
          obtain ⟨p, hp, rfl, hbp, hall⟩ := hrel
          have HA := Lib.hid hall
          clear hall
          by_cases hlp : p < k
          · obtain ⟨b, o, x, y, rfl, hbl, hg, c1, c2⟩ := (hB.bel hbp).at_ (k := p) (by rw [Hq.out]; exact hlp)
            have HG := Lib.hid hg
            have hki : (p : Int) < (k : Int) := by omega
            clear hg
            by_cases h1 : y = 1
            · subst h1
              have HS := Lib.hid (all_next HA.out HG.out (show wayOk (x, 1) = true from rfl))
              go_wp2
              go_roundw
              case rel => exact ⟨p + 1, by omega, by go_num, by (repeat (first | exact Bel.refl _ | assumption | refine Bel.drew ?_ | refine Bel.drewN ?_ _ | refine Bel.alloc ?_ _ | refine Bel.setCell ?_ (by first | omega | (simp; done) | (simp; omega) | (simp at *; omega)) _ | refine Bel.trans ?_ (by assumption))), HS.out⟩
              case measure => simp [intOf]; omega
            · have h1' : (y != 1) = true := by simpa using h1
              by_cases h2 : y = -1
              · subst h2
                have HS := Lib.hid (all_next HA.out HG.out (show wayOk (x, -1) = true from rfl))
                go_wp2
                go_roundw
                case rel => exact ⟨p + 1, by omega, by go_num, by (repeat (first | exact Bel.refl _ | assumption | refine Bel.drew ?_ | refine Bel.drewN ?_ _ | refine Bel.alloc ?_ _ | refine Bel.setCell ?_ (by first | omega | (simp; done) | (simp; omega) | (simp at *; omega)) _ | refine Bel.trans ?_ (by assumption))), HS.out⟩
                case measure => simp [intOf]; omega
              · have h2' : (y != -1) = true := by simpa using h2
                have hF := HV.out
                rw [all_no HG.out (show wayOk (x, y) = false from decide_eq_false (by simp only; omega)), if_neg (by decide)] at hF
                have HF := Lib.hid hF
                clear hF
                go_wp2
                go_ret
                exact ⟨ret_int HF.out.symm, by (repeat (first | exact Bel.refl _ | assumption | refine Bel.drew ?_ | refine Bel.drewN ?_ _ | refine Bel.alloc ?_ _ | refine Bel.setCell ?_ (by first | omega | (simp; done) | (simp; omega) | (simp at *; omega)) _ | refine Bel.trans ?_ (by assumption)))⟩
          · obtain rfl : p = k := by omega
            have hF := HV.out
            have hX := HA.out
            rw [List.take_of_length_le (by rw [Hq.out]; omega)] at hX
            rw [hX, if_pos rfl] at hF
            have HF := Lib.hid hF
            clear hF hX
            go_wp2
            go_ret
            exact ⟨ret_int HF.out.symm, hbp⟩
  · have hE' : (errV n P != 0) = true := by simpa using hE
    have HF := Lib.hid (errC_bad (L := L) hE)
    generalize hv : errV n P = v at *
    have HV := Lib.hid hv
    clear hv
    go_enter Try.func78, Try.ntmps78
    go_wp2_with (go_at_call 43; refine (validate_any lo n A m c P _ hR Hm.out).mono ?_; rintro e w1 ⟨rfl, hb1⟩; rw [HV.out])
    go_ret
    exact ⟨ret_int HF.out.symm, hb1⟩
set_option maxRecDepth 100000 in
set_option maxHeartbeats 4000000 in
theorem rCased_any (lo : Nat) (n : Int) (A : Option Addr) (m c : Nat) (P : List Wg) (B : Option Addr) (q d : Nat) (L : List (Int × Int)) (w : World) (hR : Plan lo w A P) (hm : P.length = m) (hB : Prs w B L) (hq : L.length = q) (h9 : q ≤ 9) :
    Calls Try.prog 75 #[.int .i64 n, .slice A m c, .slice B q d] w fun e w' => e = .returned (.int .i64 (errC n P L)) ∧ Bel w w' := by
  have Hm := Lib.hid hm; have Hq := Lib.hid hq
  clear hm hq
  by_cases hE : errV n P = 0
  · have HE := Lib.hid hE
    have HL := Lib.hid (fun (hl : L.all (lotOk n) = false) => errC_lot hE hl)
    have HW := Lib.hid (fun (hl : L.all (lotOk n) = true) => errC_way (L := L) hE hl)
    obtain ⟨n', rfl, hG⟩ := errV_good hE
    have hg1 := hG.pos; have hg2 := hG.le
    clear hE hG
    go_enter Try.func75, Try.ntmps75
    go_wp2_with (go_at_call 44; refine (rValidate_any lo _ A m c P _ hR Hm.out).mono ?_; rintro e w1 ⟨rfl, hb1⟩; rw [HE.out])
    go_loopw [8] (fun i wr => ∃ k : Nat, k ≤ q ∧ i = .int .i64 k ∧ Bel w wr ∧ (L.take k).all (lotOk (n' : Int)) = true) (fun i _ => q - (intOf i).toNat)
    case atStart => exact ⟨0, Nat.zero_le _, rfl, hb1, rfl⟩
    case round =>
      obtain ⟨k, hk, rfl, hb, hall⟩ := hrel
      have HA := Lib.hid hall
      clear hall
      by_cases hlt : k < q
      · obtain ⟨b, o, x, y, rfl, hbl, hg, c1, c2⟩ := (hB.bel hb).at_ (k := k) (by rw [Hq.out]; exact hlt)
        have HG := Lib.hid hg
        have hki : (k : Int) < (q : Int) := by omega
        have hk0 : (0 : Int) ≤ (k : Int) := by omega
        clear hg
        by_cases h0 : 0 ≤ x ∧ x ≤ (n' : Int) - 1
        · have HH := Lib.hid h0
          have HS := Lib.hid (all_next HA.out HG.out (show lotOk (n' : Int) (x, y) = true from decide_eq_true (by simp only; omega)))
          clear h0
          go_wp2_with (first | (go_at_call 83; refine (within_yes _ _ _ _ HH.out).mono ?_; rintro e w1 ⟨rfl, rfl⟩))
          go_roundw
          case rel => exact ⟨k + 1, by omega, by go_num, by (repeat (first | exact Bel.refl _ | assumption | refine Bel.drew ?_ | refine Bel.drewN ?_ _ | refine Bel.alloc ?_ _ | refine Bel.setCell ?_ (by first | omega | (simp; done) | (simp; omega) | (simp at *; omega)) _ | refine Bel.trans ?_ (by assumption))), HS.out⟩
          case measure => simp [intOf]; omega
        · have HH := Lib.hid h0
          have HF := Lib.hid (HL.out (all_no HG.out (decide_eq_false (by simp only; omega))))
          clear h0
          go_wp2_with (first | (go_at_call 83; refine (within_no _ _ _ _ HH.out).mono ?_; rintro e w1 ⟨rfl, rfl⟩))
          go_ret
          exact ⟨ret_int HF.out.symm, by (repeat (first | exact Bel.refl _ | assumption | refine Bel.drew ?_ | refine Bel.drewN ?_ _ | refine Bel.alloc ?_ _ | refine Bel.setCell ?_ (by first | omega | (simp; done) | (simp; omega) | (simp at *; omega)) _ | refine Bel.trans ?_ (by assumption)))⟩
      · obtain rfl : k = q := by omega
        have HX : Hid (L.all (lotOk (n' : Int)) = true) := by
          have := HA.out
          rw [List.take_of_length_le (by rw [Hq.out]; omega)] at this
          exact this
        have HV := Lib.hid (HW.out HX.out)
        clear HA HL
        go_wp2
        go_loopw [9] (fun i wr => ∃ p : Nat, p ≤ k ∧ i = .int .i64 p ∧ Bel w wr ∧ (L.take p).all wayOk = true) (fun i _ => k - (intOf i).toNat)
        case atStart => exact ⟨0, Nat.zero_le _, rfl, hb, rfl⟩
        case round =>
          obtain ⟨p, hp, rfl, hbp, hall⟩ := hrel
          have HA := Lib.hid hall
          clear hall
          by_cases hlp : p < k
          · obtain ⟨b, o, x, y, rfl, hbl, hg, c1, c2⟩ := (hB.bel hbp).at_ (k := p) (by rw [Hq.out]; exact hlp)
            have HG := Lib.hid hg
            have hki : (p : Int) < (k : Int) := by omega
            have hk0 : (0 : Int) ≤ (p : Int) := by omega
            clear hg
            by_cases h1 : y = 1
            · subst h1
              have HS := Lib.hid (all_next HA.out HG.out (show wayOk (x, 1) = true from rfl))
              go_wp2
              go_roundw
              case rel => exact ⟨p + 1, by omega, by go_num, by (repeat (first | exact Bel.refl _ | assumption | refine Bel.drew ?_ | refine Bel.drewN ?_ _ | refine Bel.alloc ?_ _ | refine Bel.setCell ?_ (by first | omega | (simp; done) | (simp; omega) | (simp at *; omega)) _ | refine Bel.trans ?_ (by assumption))), HS.out⟩
              case measure => simp [intOf]; omega
            · have h1' : (y != 1) = true := by simpa using h1
              by_cases h2 : y = -1
              · subst h2
                have HS := Lib.hid (all_next HA.out HG.out (show wayOk (x, -1) = true from rfl))
                go_wp2
                go_roundw
                case rel => exact ⟨p + 1, by omega, by go_num, by (repeat (first | exact Bel.refl _ | assumption | refine Bel.drew ?_ | refine Bel.drewN ?_ _ | refine Bel.alloc ?_ _ | refine Bel.setCell ?_ (by first | omega | (simp; done) | (simp; omega) | (simp at *; omega)) _ | refine Bel.trans ?_ (by assumption))), HS.out⟩
                case measure => simp [intOf]; omega
              · have h2' : (y != -1) = true := by simpa using h2
                have hF := HV.out
                rw [all_no HG.out (show wayOk (x, y) = false from decide_eq_false (by simp only; omega)), if_neg (by decide)] at hF
                have HF := Lib.hid hF
                clear hF
                go_wp2
                go_ret
                exact ⟨ret_int HF.out.symm, by (repeat (first | exact Bel.refl _ | assumption | refine Bel.drew ?_ | refine Bel.drewN ?_ _ | refine Bel.alloc ?_ _ | refine Bel.setCell ?_ (by first | omega | (simp; done) | (simp; omega) | (simp at *; omega)) _ | refine Bel.trans ?_ (by assumption)))⟩
          · obtain rfl : p = k := by omega
            have hF := HV.out
            have hX := HA.out
            rw [List.take_of_length_le (by rw [Hq.out]; omega)] at hX
            rw [hX, if_pos rfl] at hF
            have HF := Lib.hid hF
            clear hF hX
            go_wp2
            go_ret
            exact ⟨ret_int HF.out.symm, hbp⟩
  · have hE' : (errV n P != 0) = true := by simpa using hE
    have HF := Lib.hid (errC_bad (L := L) hE)
    generalize hv : errV n P = v at *
    have HV := Lib.hid hv
    clear hv
    go_enter Try.func75, Try.ntmps75
    go_wp2_with (go_at_call 44; refine (rValidate_any lo n A m c P _ hR Hm.out).mono ?_; rintro e w1 ⟨rfl, hb1⟩; rw [HV.out])
    go_ret
    exact ⟨ret_int HF.out.symm, hb1⟩
end Go.Proofs.Ytmckoehkekkldaa
