/- Middle. -/
import Derived.Test.YtnlcndhbamcpdaaR
namespace Go.Proofs.Ytnlcndhbamcpdaa
open Go.RowKit

/-- Middle's answer: a size and the error. -/
def midV (gs : List (Int × Int)) : Int × Int :=
  if errV gs = 0 then match gs.find? (fun g => decide (sumM gs ≤ 2 * sumB gs g.1)) with
    | some g => (g.1, 0)
    | none => (0, 4)
  else (0, errV gs)
def intE (x : Int × Int) : Value := .tuple #[.int .i64 x.1, .int .i64 x.2]
theorem intE_mk {a b : Int} {x : Int × Int} (h : x = (a, b)) : Ending.returned (.tuple #[.int .i64 a, .int .i64 b]) = .returned (intE x) := by rw [h]; rfl
theorem midV_some {gs : List (Int × Int)} (he : errV gs = 0) {k : Nat} {s m : Int} (hk : gs[k]? = some (s, m)) (hf : gs.find? (fun g => decide (sumM gs ≤ 2 * sumB gs g.1)) = (gs.drop k).find? (fun g => decide (sumM gs ≤ 2 * sumB gs g.1))) (hp : sumM gs ≤ 2 * sumB gs s) : midV gs = (s, 0) := by
  unfold midV
  rw [if_pos he, hf, drop_at hk]
  simp [hp]
theorem midV_next {gs : List (Int × Int)} {k : Nat} {s m : Int} (hk : gs[k]? = some (s, m)) (hf : gs.find? (fun g => decide (sumM gs ≤ 2 * sumB gs g.1)) = (gs.drop k).find? (fun g => decide (sumM gs ≤ 2 * sumB gs g.1))) (hp : ¬ sumM gs ≤ 2 * sumB gs s) :
    gs.find? (fun g => decide (sumM gs ≤ 2 * sumB gs g.1)) = (gs.drop (k + 1)).find? (fun g => decide (sumM gs ≤ 2 * sumB gs g.1)) := by
  rw [hf, drop_at hk]
  simp [hp]
theorem midV_none {gs : List (Int × Int)} (he : errV gs = 0) {k : Nat} (hk : gs.length ≤ k) (hf : gs.find? (fun g => decide (sumM gs ≤ 2 * sumB gs g.1)) = (gs.drop k).find? (fun g => decide (sumM gs ≤ 2 * sumB gs g.1))) : midV gs = (0, 4) := by
  unfold midV
  rw [if_pos he, hf, List.drop_of_length_le hk]
  rfl
theorem scan_takeWhile {last : Int} {gs : List (Int × Int)} (h : scan last gs = true) {k : Nat} {s m : Int} (hk : gs[k]? = some (s, m)) : (gs.takeWhile fun g => decide (g.1 ≤ s)) = gs.take (k + 1) := by
  induction gs generalizing last k with
  | nil => simp at hk
  | cons g r ih =>
    simp only [scan, Bool.and_eq_true, decide_eq_true_eq] at h
    cases k with
    | zero =>
      simp at hk
      subst hk
      cases r with
      | nil => simp
      | cons g' r' =>
        have h2 := h.2
        simp only [scan, Bool.and_eq_true, decide_eq_true_eq] at h2
        have : ¬ g'.1 ≤ s := by have := h2.1.1.1.1; omega
        simp [this]
    | succ k =>
      have h3 := scan_mem h.2 (s, m) (List.mem_of_getElem? (by simpa using hk))
      simp only at h3
      rw [List.take_succ_cons, ← ih h.2 (by simpa using hk)]
      simp [show g.1 ≤ s by omega]
theorem sumB_at {gs : List (Int × Int)} (h : errV gs = 0) {k : Nat} {s m : Int} (hk : gs[k]? = some (s, m)) : sumB gs s = sumM (gs.take (k + 1)) := by
  rw [← scan_takeWhile (scan_of h) hk, sumM_upto s (scan_of h)]

set_option maxHeartbeats 400000 in
theorem rMiddle_any (A : Option Addr) (n c : Nat) (gs : List (Int × Int)) (w : World) (hR : Prs w A gs) (hn : gs.length = n) (hlen : n ≤ 40) :
    Calls Try.prog 73 #[.slice A n c] w fun e w' => e = .returned (intE (midV gs)) ∧ Bel w w' := by
  by_cases he : errV gs = 0
  · have hm := fit_of gs he
    have HM := Lib.hid (sumB_all hm)
    have h6 := (errV_zero he).1
    have HE := Lib.hid he; clear he
    have Hn := Lib.hid hn; clear hn
    have hbd := fun size => sumB_bd (gs := gs) size hm.mass
    have HB := Lib.hid hbd; clear hbd
    go_enter Try.func73, Try.ntmps73
    go_wp2_with fail
    refine (rvalidate_any A n c gs _ hR Hn.out (by unfold maxLen; omega)).mono ?_
    rintro e w1 ⟨rfl, hb1⟩
    rw [HE.out]
    go_wp2_with fail
    go_loop [5] (fun i => ∃ k : Nat, k ≤ n ∧ i = .int .i64 k ∧ gs.find? (fun g => decide (sumM gs ≤ 2 * sumB gs g.1)) = (gs.drop k).find? (fun g => decide (sumM gs ≤ 2 * sumB gs g.1))) (fun i => n - (intOf i).toNat)
    case atStart => exact ⟨0, Nat.zero_le _, rfl, rfl⟩
    case round =>
      obtain ⟨k, hk, rfl, hf⟩ := hrel
      have HF := Lib.hid hf; clear hf
      by_cases hlt : k < n
      · obtain ⟨b, o, s, m, rfl, hbl, hg, hc1, hc2⟩ := (hR.bel hb1).at_ (k := k) (by rw [Hn.out]; exact hlt)
        obtain ⟨q1, q2⟩ := HB.out s
        have HG := Lib.hid hg; clear hg
        by_cases hp : sumM gs ≤ 2 * sumB gs s
        · have HV : Hid (midV gs = (s, 0)) := midV_some HE.out HG.out HF.out hp
          go_wp2_with fail
          refine (below_any _ n c gs s _ (hR.bel hb1) Hn.out (by omega) hm.mass).mono ?_
          rintro e w2 ⟨rfl, rfl⟩
          go_wp2_with fail
          refine (below_any _ n c gs 20 _ (hR.bel hb1) Hn.out (by omega) hm.mass).mono ?_
          rintro e w2 ⟨rfl, rfl⟩
          rw [HM.out]
          go_wp2
          go_ret2
          exact ⟨intE_mk HV.out, hb1⟩
        · have HN : Hid (_ = _) := midV_next HG.out HF.out hp
          go_wp2_with fail
          refine (below_any _ n c gs s _ (hR.bel hb1) Hn.out (by omega) hm.mass).mono ?_
          rintro e w2 ⟨rfl, rfl⟩
          go_wp2_with fail
          refine (below_any _ n c gs 20 _ (hR.bel hb1) Hn.out (by omega) hm.mass).mono ?_
          rintro e w2 ⟨rfl, rfl⟩
          rw [HM.out]
          go_wp2
          go_round
          case rel => exact ⟨k + 1, by omega, by go_num, HN.out⟩
          case measure => simp [intOf]; omega
      · obtain rfl : k = n := by omega
        have HV : Hid (midV gs = (0, 4)) := midV_none HE.out (by rw [Hn.out]; omega) HF.out
        go_wp2
        go_ret2
        exact ⟨intE_mk HV.out, hb1⟩
  · have hv : midV gs = (0, errV gs) := by unfold midV; rw [if_neg he]
    have HV := Lib.hid hv; clear hv
    have hne : (errV gs != 0) = true := by simpa using he
    go_enter Try.func73, Try.ntmps73
    go_wp2_with fail
    refine (rvalidate_any A n c gs _ hR hn (by unfold maxLen; omega)).mono ?_
    rintro e w1 ⟨rfl, hb1⟩
    go_wp2
    go_ret2
    exact ⟨intE_mk HV.out, hb1⟩

set_option maxHeartbeats 400000 in
theorem wMiddle_any (A : Option Addr) (n c : Nat) (gs : List (Int × Int)) (w : World) (hR : Prs w A gs) (hn : gs.length = n) (hlen : n ≤ 40) :
    Calls Try.prog 75 #[.slice A n c] w fun e w' => e = .returned (intE (midV gs)) ∧ Bel w w' := by
  by_cases he : errV gs = 0
  · have hm := fit_of gs he
    have h6 := (errV_zero he).1
    have hat := fun k s m h => sumB_at (k := k) (s := s) (m := m) he h
    have HA := Lib.hid hat; clear hat
    have HE := Lib.hid he; clear he
    have Hn := Lib.hid hn; clear hn
    go_enter Try.func75, Try.ntmps75
    go_wp2_with fail
    refine (validate_any A n c gs _ hR Hn.out (by unfold maxLen; omega)).mono ?_
    rintro e w1 ⟨rfl, hb1⟩
    rw [HE.out]
    go_wp2_with fail
    refine (massOf_any A n c gs _ (hR.bel hb1) Hn.out (by omega) hm).mono ?_
    rintro e w2 ⟨rfl, hb2⟩
    have hb12 := hb1.trans hb2
    go_wp2_with fail
    go_loopw [6, 8, 18] (fun a _ i wr => ∃ k : Nat, k ≤ n ∧ i = .int .i64 k ∧ a = .int .i64 (sumM (gs.take k)) ∧ Bel w wr ∧ gs.find? (fun g => decide (sumM gs ≤ 2 * sumB gs g.1)) = (gs.drop k).find? (fun g => decide (sumM gs ≤ 2 * sumB gs g.1))) (fun _ _ i _ => n - (intOf i).toNat)
    case atStart => exact ⟨0, Nat.zero_le _, rfl, by simp [sumM], hb12, rfl⟩
    case round =>
      obtain ⟨k, hk, rfl, rfl, hb, hf⟩ := hrel
      have HF := Lib.hid hf; clear hf
      by_cases hlt : k < n
      · obtain ⟨b, o, s, m, rfl, hbl, hg, hc1, hc2⟩ := (hR.bel hb).at_ (k := k) (by rw [Hn.out]; exact hlt)
        obtain ⟨⟨hm3, hm4⟩, hm1, hm2⟩ := hm (s, m) (List.mem_of_getElem? hg)
        obtain ⟨hs1, hs2⟩ := sumM_bd (hm.take k)
        have hl := List.length_take_le k gs
        have hat : sumB gs s = sumM (gs.take k) + m := by rw [HA.out k s m hg, take_at hg, sumM_snoc]
        have hsn : sumM (gs.take (k + 1)) = sumM (gs.take k) + m := by rw [take_at hg, sumM_snoc]
        have HS := Lib.hid hsn; clear hsn
        have HG := Lib.hid hg; clear hg
        simp only at hm1 hm2 hm3 hm4
        by_cases hp : sumM gs ≤ 2 * sumB gs s
        · have HV : Hid (midV gs = (s, 0)) := midV_some HE.out HG.out HF.out hp
          rw [hat] at hp
          clear hat
          go_wp2
          go_ret2
          exact ⟨intE_mk HV.out, by (repeat (first | exact Bel.refl _ | assumption | refine Bel.drew ?_ | refine Bel.drewN ?_ _ | refine Bel.alloc ?_ _ | refine Bel.setCell ?_ (by first | omega | (simp; done) | (simp; omega) | (simp at *; omega)) _ | refine Bel.trans ?_ (by assumption)))⟩
        · have HN : Hid (_ = _) := midV_next HG.out HF.out hp
          rw [hat] at hp
          clear hat
          go_wp2
          go_roundw
          case rel => exact ⟨k + 1, by omega, by go_num, by rw [HS.out], by (repeat (first | exact Bel.refl _ | assumption | refine Bel.drew ?_ | refine Bel.drewN ?_ _ | refine Bel.alloc ?_ _ | refine Bel.setCell ?_ (by first | omega | (simp; done) | (simp; omega) | (simp at *; omega)) _ | refine Bel.trans ?_ (by assumption))), HN.out⟩
          case measure => simp [intOf]; omega
      · obtain rfl : k = n := by omega
        have HV : Hid (midV gs = (0, 4)) := midV_none HE.out (by rw [Hn.out]; omega) HF.out
        go_wp2
        go_ret2
        exact ⟨intE_mk HV.out, hb⟩
  · have hv : midV gs = (0, errV gs) := by unfold midV; rw [if_neg he]
    have HV := Lib.hid hv; clear hv
    have hne : (errV gs != 0) = true := by simpa using he
    go_enter Try.func75, Try.ntmps75
    go_wp2_with fail
    refine (validate_any A n c gs _ hR hn (by unfold maxLen; omega)).mono ?_
    rintro e w1 ⟨rfl, hb1⟩
    go_wp2
    go_ret2
    exact ⟨intE_mk HV.out, hb1⟩
end Go.Proofs.Ytnlcndhbamcpdaa
