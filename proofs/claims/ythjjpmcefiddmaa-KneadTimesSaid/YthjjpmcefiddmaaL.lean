/- slices.Equal of batches; Times of the program; what the law asks of the known folds. -/
import Derived.Test.YthjjpmcefiddmaaH
namespace Go.Proofs.Ythjjpmcefiddmaa
open Go.RowKit

attribute [local go_sem] Oper.semAt_some

theorem Seg.list {w : World} {b o m : Nat} {f : Nat → Int} (hS : Seg w b o m f) : Ints w (some ⟨b, o, none⟩) ((List.range m).map f) := by
  refine .inr ⟨b, o, rfl, hS.lt, fun j v hj => ?_⟩
  simp only [List.getElem?_map, Option.map_eq_some_iff] at hj
  obtain ⟨i, hi, rfl⟩ := hj
  obtain ⟨hl, e⟩ := List.getElem?_eq_some_iff.1 hi
  simp at hl e
  subst e
  exact hS.cells j hl
set_option maxRecDepth 100000 in
set_option maxHeartbeats 1000000 in
theorem equal_any (b1 o1 c1 b2 o2 c2 n : Nat) (f g : Nat → Int) (w : World) (hA : Seg w b1 o1 n f) (hB : Seg w b2 o2 n g) (hmax : n ≤ 40) :
    Calls Try.prog 62 #[.slice (some ⟨b1, o1, none⟩) n c1, .slice (some ⟨b2, o2, none⟩) n c2] w fun e w' => e = .returned (.bool (decide (∀ q, q < n → f q = g q))) ∧ Bel w w' := by
  have hne : ((n : Int) != (n : Int)) = false := by simp
  go_enter Try.func62, Try.ntmps62
  go_wp2
  go_loopw [5, 13] (fun _ i wr => ∃ q : Nat, q ≤ n ∧ i = .int .i64 q ∧ Bel w wr ∧ ∀ j, j < q → f j = g j) (fun _ i _ => n - (intOf i).toNat)
  case atStart => exact ⟨0, Nat.zero_le _, rfl, Bel.refl _, fun j hj => by omega⟩
  case round =>
    obtain ⟨q, hq, rfl, hb, hz⟩ := hrel
    have HZ := Lib.hid hz
    clear hz
    by_cases hlt : q < n
    · have d1 := (hA.bel hb).cells q hlt
      have d2 := (hB.bel hb).cells q hlt
      have e1 := (hA.bel hb).lt
      have e2 := (hB.bel hb).lt
      have hkn : (q : Int) < (n : Int) := by omega
      by_cases hs : f q = g q
      · have HS := Lib.hid hs
        rw [hs] at d1
        obtain ⟨s, hss⟩ : ∃ s, s = g q := ⟨_, rfl⟩
        rw [← hss] at d1 d2
        have hsx : (s != s) = false := by simp
        clear hs hss
        go_wp2
        go_quiet (fail)
        go_wp2
        go_roundw
        case rel => exact ⟨q + 1, by omega, by go_num, by (repeat (first | exact Bel.refl _ | assumption | refine Bel.drew ?_ | refine Bel.drewN ?_ _ | refine Bel.alloc ?_ _ | refine Bel.setCell ?_ (by first | omega | (simp; done) | (simp; omega) | (simp at *; omega)) _ | refine Bel.trans ?_ (by assumption))), fun j hj => by
          rcases (by omega : j < q ∨ j = q) with h | rfl
          · exact HZ.out j h
          · exact HS.out⟩
        case measure => simp [intOf]; omega
      · have hsx : (f q != g q) = true := by simpa using hs
        have HF := Lib.hid (show decide (∀ q, q < n → f q = g q) = false from decide_eq_false (fun e => hs (e q hlt)))
        generalize f q = s at *
        generalize g q = s' at *
        clear hs
        go_wp2
        go_quiet (fail)
        go_wp2
        go_ret
        exact ⟨ret_bool HF.out.symm, by (repeat (first | exact Bel.refl _ | assumption | refine Bel.drew ?_ | refine Bel.drewN ?_ _ | refine Bel.alloc ?_ _ | refine Bel.setCell ?_ (by first | omega | (simp; done) | (simp; omega) | (simp at *; omega)) _ | refine Bel.trans ?_ (by assumption)))⟩
    · obtain rfl : q = n := by omega
      have HF := Lib.hid (show decide (∀ j, j < q → f j = g j) = true from decide_eq_true HZ.out)
      go_wp2
      go_ret
      exact ⟨ret_bool HF.out.symm, by (repeat (first | exact Bel.refl _ | assumption | refine Bel.drew ?_ | refine Bel.drewN ?_ _ | refine Bel.alloc ?_ _ | refine Bel.setCell ?_ (by first | omega | (simp; done) | (simp; omega) | (simp at *; omega)) _ | refine Bel.trans ?_ (by assumption)))⟩
/-- Is each lump where it was after t folds? -/
def tmB (h k t : Nat) : Bool := (List.range (2 * h)).all fun p => decide (goW h (List.replicate t (k : Int)) p = p)
/-- The smallest number of folds, from 1 on, after which each lump is where it was. -/
def timesN (h k : Nat) : Nat := 1 + (List.range 40).findIdx fun t => tmB h k (t + 1)
theorem times_all : (List.range 16).all (fun h => (List.range 2).all fun k => (List.range 40).any fun t => tmB (h + 1) k (t + 1)) = true := by decide +kernel
theorem timesN_ok {h k : Nat} (h1 : 1 ≤ h) (h16 : h ≤ 16) (hk : k ≤ 1) : tmB h k (timesN h k) = true ∧ timesN h k ≤ 40 := by
  have h0 := List.all_eq_true.1 times_all (h - 1) (List.mem_range.2 (by omega))
  have h2 := List.all_eq_true.1 h0 k (List.mem_range.2 (by omega))
  rw [show h - 1 + 1 = h from by omega] at h2
  have hlt : (List.range 40).findIdx (fun t => tmB h k (t + 1)) < (List.range 40).length := List.findIdx_lt_length_of_exists (by simpa using h2)
  have h3 := List.findIdx_getElem (w := hlt)
  simp at h3 hlt
  unfold timesN
  rw [Nat.add_comm]
  exact ⟨h3, by omega⟩
theorem timesN_min {h k t : Nat} (h1 : 1 ≤ t) (ht : t < timesN h k) (h40 : t ≤ 40) : tmB h k t = false := by
  unfold timesN at ht
  have hlt : t - 1 < (List.range 40).findIdx (fun t => tmB h k (t + 1)) := by omega
  have h3 := List.not_of_lt_findIdx hlt
  simp at h3
  rw [show t - 1 + 1 = t from by omega] at h3
  exact h3
def rep (t k : Nat) : List Int := List.replicate t (k : Int)
theorem rep_ok (t : Nat) {k : Nat} (hk : k ≤ 1) : WordOK (rep t k) := fun v hv => by
  have := List.eq_of_mem_replicate hv
  omega
theorem rep_succ (t k : Nat) : rep (t + 1) k = rep t k ++ [(k : Int)] := by unfold rep; rw [List.replicate_succ']
theorem tmB_iff {h k t : Nat} (hk : k ≤ 1) : tmB h k t = true ↔ ∀ q, q < 2 * h → unW h (rep t k) q = q := by
  have hW := rep_ok t hk
  unfold tmB
  rw [List.all_eq_true]
  constructor
  · intro hh q hq
    have h1 := hh (unW h (rep t k) q) (List.mem_range.2 (unW_lt _ hq))
    have h2 := of_decide_eq_true h1
    have h3 : goW h (rep t k) (unW h (rep t k) q) = unW h (rep t k) q := h2
    rw [go_unW hW hq] at h3
    exact h3.symm
  · intro hh p hp
    have hp' := List.mem_range.1 hp
    have h1 := hh (goW h (rep t k) p) (goW_lt hW hp')
    rw [un_goW hW hp'] at h1
    exact decide_eq_true h1.symm
/-- What is wrong with a number of lumps and a kind. -/
def eK (n k : Int) : Int := if eD n = 0 then (if kB k then 0 else 1) else 1
theorem eK_zero {n k : Int} (h : eK n k = 0) : (∃ m : Nat, 1 ≤ m ∧ m ≤ 16 ∧ n = ((2 * m : Nat) : Int)) ∧ ∃ q : Nat, q ≤ 1 ∧ k = (q : Int) := by
  unfold eK at h
  split at h
  · rename_i h1
    refine ⟨eD_zero h1, ?_⟩
    split at h
    · rename_i h2
      have : k = 0 ∨ k = 1 := by simpa [kB] using h2
      rcases this with rfl | rfl
      · exact ⟨0, by omega, rfl⟩
      · exact ⟨1, by omega, rfl⟩
    · cases h
  · cases h
theorem eK_one {n k : Int} (h : eK n k ≠ 0) : eK n k = 1 := by
  unfold eK at h ⊢
  split at h
  · rename_i h1
    rw [if_pos h1]
    split at h
    · exact absurd rfl h
    · rename_i h2; rw [if_neg h2]
  · rename_i h1; rw [if_neg h1]
theorem eK_ok {h k : Nat} (h1 : 1 ≤ h) (h16 : h ≤ 16) (hk : k ≤ 1) : eK ((2 * h : Nat) : Int) (k : Int) = 0 := by
  unfold eK
  rw [if_pos (eD_half h1 h16), if_pos]
  rcases (by omega : k = 0 ∨ k = 1) with rfl | rfl <;> rfl
theorem validateKind_any (n k : Int) (w : World) : Calls Try.prog 60 #[.int .i64 n, .int .i64 k] w fun e w' => e = .returned (.int .i64 (eK n k)) ∧ w = w' := by
  by_cases h0 : eD n = 0
  · have H0 := Lib.hid h0
    cases hq : kB k
    · have HE := Lib.hid (show eK n k = 1 from by unfold eK; rw [if_pos h0, hq]; rfl)
      have HQ := Lib.hid hq
      clear h0 hq
      go_enter Try.func60, Try.ntmps60
      go_wp2_with fail
      refine (validateLumps_any n _).mono ?_
      rintro e w1 ⟨rfl, rfl⟩
      rw [H0.out]
      go_wp2_with fail
      refine (isKind_any k _).mono ?_
      rintro e w1 ⟨rfl, rfl⟩
      rw [HQ.out]
      go_wp2
      go_ret
      exact ⟨ret_int HE.out.symm, rfl⟩
    · have HE := Lib.hid (show eK n k = 0 from by unfold eK; rw [if_pos h0, hq]; rfl)
      have HQ := Lib.hid hq
      clear h0 hq
      go_enter Try.func60, Try.ntmps60
      go_wp2_with fail
      refine (validateLumps_any n _).mono ?_
      rintro e w1 ⟨rfl, rfl⟩
      rw [H0.out]
      go_wp2_with fail
      refine (isKind_any k _).mono ?_
      rintro e w1 ⟨rfl, rfl⟩
      rw [HQ.out]
      go_wp2
      go_ret
      exact ⟨ret_int HE.out.symm, rfl⟩
  · have HE := Lib.hid (show eK n k = 1 from by unfold eK; rw [if_neg h0])
    have H0 := Lib.hid (eD_one h0)
    clear h0
    go_enter Try.func60, Try.ntmps60
    go_wp2_with fail
    refine (validateLumps_any n _).mono ?_
    rintro e w1 ⟨rfl, rfl⟩
    rw [H0.out]
    go_wp2
    go_ret
    exact ⟨ret_int HE.out.symm, rfl⟩
theorem foldI_any (v : Value) (x : Int) (k : Nat) (hx : x = (k : Int)) (hk : k ≤ 1) (w : World) : Calls Try.prog 61 #[v, .int .i64 x] w fun e w' => e = .returned (.func (Fn.func (if k = 0 then 84 else 85)) #[v] #[]) ∧ w = w' := by
  subst hx
  exact fold_any v k hk w
set_option maxRecDepth 100000 in
set_option maxHeartbeats 2000000 in
theorem times_ok (h k : Nat) (w : World) (h1 : 1 ≤ h) (h16 : h ≤ 16) (hk : k ≤ 1) :
    Calls Try.prog 26 #[.int .i64 ((2 * h : Nat) : Int), .int .i64 (k : Int)] w fun e w' => e = .returned (.tuple #[.int .i64 ((timesN h k : Nat) : Int), .int .i64 0]) ∧ Bel w w' := by
  obtain ⟨L, hL⟩ : ∃ L : Int, L = ((2 * h : Nat) : Int) := ⟨_, rfl⟩
  have HL := Lib.hid hL
  obtain ⟨x, hx⟩ : ∃ x : Int, x = (k : Int) := ⟨_, rfl⟩
  have HX := Lib.hid hx
  have HE := Lib.hid (show eK L x = 0 from by rw [hL, hx]; exact eK_ok h1 h16 hk)
  obtain ⟨T, hT⟩ : ∃ T, T = timesN h k := ⟨_, rfl⟩
  obtain ⟨m, hm⟩ : ∃ m, m = k := ⟨_, rfl⟩
  have HM := Lib.hid hm
  have hm1 : m ≤ 1 := by omega
  have HOK := Lib.hid (timesN_ok h1 h16 hk)
  have HMIN : Hid (∀ t, 1 ≤ t → t < T → tmB h m t = false) := fun t a b => by
    rw [hT] at b
    rw [hm]
    exact timesN_min a b (by have := HOK.out.2; omega)
  rw [← hT, ← hm] at HOK
  rw [← hL, ← hT, ← hx]
  have hT40 := HOK.out.2
  have hT1 : 1 ≤ T := by rw [hT]; unfold timesN; omega
  clear hT hL hx hm
  rcases (by omega : k = 0 ∨ k = 1) with rfl | rfl
  all_goals
    go_enter Try.func26, Try.ntmps26
    go_wp2_with fail
    refine (validateKind_any L x _).mono ?_
    rintro e w1 ⟨rfl, rfl⟩
    rw [HE.out]
    go_wp2_with fail
    rw [HL.out]
    refine (numbered_any (2 * h) _ (by omega)).mono ?_
    rintro e w1 ⟨g0, rfl, hg0, hb1, hr0⟩
    have hS0 := Seg.of_row hr0
    go_wp2_with fail
    refine (foldI_any _ x _ HX.out hk _).mono ?_
    rintro e w2 ⟨rfl, rfl⟩
    go_wp2_with fail
    first | refine (out_any g0 0 h (2 * h) _ _ hS0 h1 h16 (Nat.le_refl _)).mono ?_ | refine (in_any g0 0 h (2 * h) _ _ hS0 h1 h16 (Nat.le_refl _)).mono ?_
    rintro e w2 ⟨g1, rfl, hg1, hb2, hr1⟩
    go_wp2
    go_loopw [8, 9] (fun tv bv wr => ∃ t : Nat, 1 ≤ t ∧ t ≤ T ∧ tv = .int .i64 (t : Int) ∧ Bel w1 wr ∧ ∃ b o, bv = .slice (some ⟨b, o, none⟩) (2 * h) (2 * h) ∧ Seg wr b o (2 * h) (fun q => ((unW h (rep t m) q : Nat) : Int))) (fun tv _ _ => T - (intOf tv).toNat)
    case atStart => exact ⟨1, Nat.le_refl _, hT1, rfl, hb2, g1, 0, rfl, (Seg.of_row hr1).congr fun q _ => by rw [HM.out]; rfl⟩
    case round =>
      clear hr0 hr1 hb2
      obtain ⟨t, ht1, ht2, rfl, hb, b, o, rfl, hS⟩ := hrel
      have h64 : (t : Int) ≤ 40 := by omega
      go_wp2_with fail
      refine (equal_any b o (2 * h) g0 0 (2 * h) (2 * h) _ _ _ hS (hS0.bel hb) (by omega)).mono ?_
      rintro e w3 ⟨rfl, hb3⟩
      by_cases hlt : t < T
      · have HF := Lib.hid (show decide (∀ q, q < 2 * h → ((unW h (rep t m) q : Nat) : Int) = (q : Int)) = false from decide_eq_false (fun e => by
          have h5 := (tmB_iff (h := h) (t := t) hm1).2 (fun q hq => by have := e q hq; omega)
          rw [HMIN.out t ht1 hlt] at h5
          cases h5))
        rw [HF.out]
        go_wp2_with fail
        refine (foldI_any _ x _ HX.out hk _).mono ?_
        rintro e w4 ⟨rfl, rfl⟩
        go_wp2_with fail
        first | refine (out_any b o h (2 * h) _ _ (hS.bel hb3) h1 h16 (Nat.le_refl _)).mono ?_ | refine (in_any b o h (2 * h) _ _ (hS.bel hb3) h1 h16 (Nat.le_refl _)).mono ?_
        rintro e w4 ⟨g4, rfl, hg4, hb4, hr4⟩
        go_wp2
        go_roundw
        case rel => exact ⟨t + 1, by omega, by omega, by go_num, (hb.trans hb3).trans hb4, g4, 0, rfl, (Seg.of_row hr4).congr fun q _ => by rw [rep_succ, unW_app, HM.out]; rfl⟩
        case measure => simp [intOf]; omega
      · obtain rfl : t = T := by omega
        have HF := Lib.hid (show decide (∀ q, q < 2 * h → ((unW h (rep t m) q : Nat) : Int) = (q : Int)) = true from decide_eq_true (fun q hq => by
          have h5 := (tmB_iff (h := h) (t := t) hm1).1 HOK.out.1 q hq
          omega))
        rw [HF.out]
        go_wp2
        exact bodyPost_ret (v := .tuple #[.int .i64 (t : Int), .int .i64 0]) (by simp [results, Try.results26, go_sem]) rfl ⟨rfl, (hb1.trans hb).trans hb3⟩
end Go.Proofs.Ythjjpmcefiddmaa
