/-
  The statement WashFinerSaid: for all pairs of lots IsFiner answers as the document says, lots finer than each other are equal, the finer one's mean is not greater, the lists stay as they were in their spare cells, too, and the known masses come out. No condition.
-/
import Derived.Test.YtnlcndhbamcpdaaAF
import Derived.Test.YtnlcndhbamcpdaaT
import Derived.Test.YtnlcndhbamcpdaaY2
namespace Go.Proofs.Ytnlcndhbamcpdaa.washFiner
open Go.ChangeShapes Go.WideShapes Go.ChangeAt Go.RowKit Go.Joins

set_option maxHeartbeats 400000 in
theorem sameLot_any (A B : Option Addr) (n c n' c' : Nat) (xs ys : List (Int × Int)) (w : World) (hA : Prs w A xs) (hB : Prs w B ys) (hn : xs.length = n) (hn' : ys.length = n') (hmax : n ≤ maxLen) (hmax' : n' ≤ maxLen) :
    Calls Try.prog 50 #[.slice A n c, .slice B n' c'] w fun e w' => e = .returned (.bool (same xs ys)) ∧ Bel w w' := by
  unfold maxLen at hmax hmax'
  by_cases hl : n = n'
  · subst hl
    have Hn := Lib.hid hn; clear hn
    have Hn' := Lib.hid hn'; clear hn'
    go_enter Try.func50, Try.ntmps50
    go_wp2
    go_loopw [5] (fun i wr => ∃ k : Nat, k ≤ n ∧ i = .int .i64 k ∧ Bel w wr ∧ xs.take k = ys.take k) (fun i _ => n - (intOf i).toNat)
    case atStart => exact ⟨0, Nat.zero_le _, rfl, Bel.refl _, rfl⟩
    case round =>
      obtain ⟨k, hk, rfl, hb, ht⟩ := hrel
      have HT := Lib.hid ht; clear ht
      by_cases hlt : k < n
      · obtain ⟨b, o, s, m, rfl, hbl, hg, hc1, hc2⟩ := (hA.bel hb).at_ (k := k) (by rw [Hn.out]; exact hlt)
        obtain ⟨b', o', s', m', rfl, hbl', hg', hc1', hc2'⟩ := (hB.bel hb).at_ (k := k) (by rw [Hn'.out]; exact hlt)
        have hkn : (k : Int) < (n : Int) := by omega
        have hk0 : (0 : Int) ≤ (k : Int) := by omega
        by_cases he : s = s' ∧ m = m'
        · obtain ⟨rfl, rfl⟩ := he
          have HF : Hid (xs.take (k + 1) = ys.take (k + 1)) := by
            show _ = _
            rw [take_at hg, take_at hg', HT.out]
          clear hg hg'
          go_wp2
          go_quiet (fail)
          go_wp2
          go_roundw
          case rel => exact ⟨k + 1, by omega, by go_num, by (repeat (first | exact Bel.refl _ | assumption | refine Bel.drew ?_ | refine Bel.drewN ?_ _ | refine Bel.alloc ?_ _ | refine Bel.setCell ?_ (by first | omega | (simp; done) | (simp; omega) | (simp at *; omega)) _ | refine Bel.trans ?_ (by assumption))), HF.out⟩
          case measure => simp [intOf]; omega
        · have HF : Hid (same xs ys = false) := same_at hg hg' (fun e => he (by injection e with a b; exact ⟨a, b⟩))
          clear hg hg'
          by_cases hs : s = s'
          · subst hs
            have hd : (m == m') = false := by simpa using he
            clear he
            go_wp2
            go_quiet (fail)
            go_wp2
            go_ret
            exact ⟨ret_bool HF.out.symm, by (repeat (first | exact Bel.refl _ | assumption | refine Bel.drew ?_ | refine Bel.drewN ?_ _ | refine Bel.alloc ?_ _ | refine Bel.setCell ?_ (by first | omega | (simp; done) | (simp; omega) | (simp at *; omega)) _ | refine Bel.trans ?_ (by assumption)))⟩
          · have hd : (s == s') = false := by simpa using hs
            clear he hs
            go_wp2
            go_quiet (fail)
            go_wp2
            go_ret
            exact ⟨ret_bool HF.out.symm, by (repeat (first | exact Bel.refl _ | assumption | refine Bel.drew ?_ | refine Bel.drewN ?_ _ | refine Bel.alloc ?_ _ | refine Bel.setCell ?_ (by first | omega | (simp; done) | (simp; omega) | (simp at *; omega)) _ | refine Bel.trans ?_ (by assumption)))⟩
      · obtain rfl : k = n := by omega
        have HF : Hid (same xs ys = true) := same_end Hn.out Hn'.out HT.out
        go_wp2
        go_ret
        exact ⟨ret_bool HF.out.symm, hb⟩
  · have HF : Hid (same xs ys = false) := same_len (by rw [hn, hn']; exact hl)
    have hne : ((n : Int) != (n' : Int)) = true := by rw [bne_iff_ne]; omega
    clear hn hn'
    go_enter Try.func50, Try.ntmps50
    go_wp2
    go_ret
    exact ⟨ret_bool HF.out.symm, Bel.refl _⟩

theorem errF_sym {gs hs : List (Int × Int)} (h : errF gs hs = 0) : errF hs gs = 0 := by
  obtain ⟨a, b, c⟩ := errF_zero h
  have e : errB hs gs = 0 := by unfold errB; rw [if_pos b, a]
  unfold errF
  rw [if_pos e, if_pos c.symm]
/-- The finer lot's mean is not greater. -/
theorem mean_le {gs hs : List (Int × Int)} (h1 : Fit gs) (h2 : Fit hs) (hm : sumM gs = sumM hs) (hp : 0 < sumM gs) (a : finB gs hs = true) :
    num (sumS gs) (sumM gs) * den (sumS hs) (sumM hs) ≤ num (sumS hs) (sumM hs) * den (sumS gs) (sumM gs) := by
  have s1 := sumS_bd h1
  have s2 := sumS_bd h2
  have p2 : 0 < sumM hs := by omega
  have c1 := num_den (a := sumS gs) (b := sumM gs) (by omega) hp
  have c2 := num_den (a := sumS hs) (b := sumM hs) (by omega) p2
  obtain ⟨d1, -⟩ := den_bd (n := sumS gs) (d := sumM gs) (by omega) hp
  obtain ⟨d2, -⟩ := den_bd (n := sumS hs) (d := sumM hs) (by omega) p2
  have le := fin_sumS h1 h2 hm a
  rw [← hm] at c2
  generalize num (sumS gs) (sumM gs) = x1 at *
  generalize den (sumS gs) (sumM gs) = x2 at *
  rw [← hm] at d2 ⊢
  generalize num (sumS hs) (sumM gs) = y1 at *
  generalize den (sumS hs) (sumM gs) = y2 at *
  generalize sumM gs = M at *
  generalize sumS gs = S1 at *
  generalize sumS hs = S2 at *
  refine Int.le_of_mul_le_mul_right ?_ hp
  calc x1 * y2 * M = (x1 * M) * y2 := by ac_rfl
    _ = S1 * (x2 * y2) := by rw [c1]; ac_rfl
    _ ≤ S2 * (x2 * y2) := Int.mul_le_mul_of_nonneg_right le (Int.mul_nonneg (Int.le_of_lt d1) (Int.le_of_lt d2))
    _ = (y1 * M) * x2 := by rw [c2]; ac_rfl
    _ = y1 * x2 * M := by ac_rfl
theorem mean_none {gs : List (Int × Int)} (h : errV gs = 0) (hn : gs.length = 0) : meanV gs = (0, 0, 4) := by unfold meanV; rw [if_pos h, if_pos hn]
theorem mean_some {gs : List (Int × Int)} (h : errV gs = 0) (hn : gs.length ≠ 0) : meanV gs = (num (sumS gs) (sumM gs), den (sumS gs) (sumM gs), 0) := by unfold meanV; rw [if_pos h, if_neg hn]
theorem mean_bd {gs : List (Int × Int)} (h : errV gs = 0) (hn : gs.length ≠ 0) : (0 ≤ num (sumS gs) (sumM gs) ∧ num (sumS gs) (sumM gs) ≤ 12000) ∧ 1 ≤ den (sumS gs) (sumM gs) ∧ den (sumS gs) (sumM gs) ≤ 600 := by
  have f := fit_of gs h
  have l := (errV_zero h).1
  have s1 := sumS_bd f
  have s2 := sumM_bd f
  obtain ⟨a, b⟩ := num_bd (n := sumS gs) (d := sumM gs) (by omega) (by omega)
  obtain ⟨c, d⟩ := den_bd (n := sumS gs) (d := sumM gs) (by omega) (by omega)
  omega

set_option maxRecDepth 100000 in
set_option maxHeartbeats 4000000 in
theorem inner (A B : Option Addr) (n c m d : Nat) (gs hs : List (Int × Int)) (w : World) (hR : Prs w A gs) (hS : Prs w B hs) (hn : gs.length = n) (hm : hs.length = m) :
    Calls Try.prog 33 #[.slice A n c, .slice B m d] w fun e w' => e = .returned (.bool true) ∧ Bel w w' := by
  by_cases h40 : 40 < n
  · have hd : decide (40 < n) = true := by simpa using h40
    go_enter Try.func33, Try.ntmps33
    go_wp2_with (first | (go_at_call 41; refine (long_any _ _ _ _).mono ?_; rintro e w' ⟨rfl, rfl⟩) | (go_at_call 24; refine (known_any _).mono ?_; rintro e w7 ⟨rfl, hb7⟩))
    go_ret
    exact ⟨rfl, by (repeat (first | exact Bel.refl _ | assumption | refine Bel.drew ?_ | refine Bel.drewN ?_ _ | refine Bel.alloc ?_ _ | refine Bel.setCell ?_ (by first | omega | (simp; done) | (simp; omega) | (simp at *; omega)) _ | refine Bel.trans ?_ (by assumption)))⟩
  have hd : decide (40 < n) = false := by simpa using h40
  by_cases h41 : 40 < m
  · have hd2 : decide (40 < m) = true := by simpa using h41
    go_enter Try.func33, Try.ntmps33
    go_wp2_with (first | (go_at_call 41; refine (long_any _ _ _ _).mono ?_; rintro e w' ⟨rfl, rfl⟩) | (go_at_call 24; refine (known_any _).mono ?_; rintro e w7 ⟨rfl, hb7⟩))
    go_ret
    exact ⟨rfl, by (repeat (first | exact Bel.refl _ | assumption | refine Bel.drew ?_ | refine Bel.drewN ?_ _ | refine Bel.alloc ?_ _ | refine Bel.setCell ?_ (by first | omega | (simp; done) | (simp; omega) | (simp at *; omega)) _ | refine Bel.trans ?_ (by assumption)))⟩
  have hd2 : decide (40 < m) = false := by simpa using h41
  have hmax : n ≤ maxLen := by unfold maxLen; omega
  have hmax2 : m ≤ maxLen := by unfold maxLen; omega
  obtain ⟨⟨f1, f2⟩, hfv⟩ : ∃ x, x = finV gs hs := ⟨_, rfl⟩
  by_cases hok : f2 = 0 ∧ f1 = true
  · obtain ⟨rfl, rfl⟩ := hok
    have he : errF gs hs = 0 := by
      unfold finV at hfv
      split at hfv
      · assumption
      · injection hfv with a b; cases a
    have hfb : finB gs hs = true := by
      unfold finV at hfv
      rw [if_pos he] at hfv
      injection hfv with a b
      exact a.symm
    obtain ⟨e1, e2, e3⟩ := errF_zero he
    have hbv : finV hs gs = (same gs hs, 0) := by
      unfold finV
      rw [if_pos (errF_sym he), fin_anti e1 e2 hfb]
      rfl
    have HFV := Lib.hid hfv; clear hfv
    have HBV := Lib.hid hbv; clear hbv
    by_cases h0 : n = 0
    · have hm0 : m = 0 := by
        have q1 := sumM_bd (fit_of gs e1)
        have q2 := sumM_bd (fit_of hs e2)
        omega
      have HM1 := Lib.hid (mean_none e1 (by omega))
      have HM2 := Lib.hid (mean_none e2 (by omega))
      subst h0 hm0
      have Hn := Lib.hid hn; clear hn
      have Hm := Lib.hid hm; clear hm
      clear e1 e2 e3 he hfb
      go_enter Try.func33, Try.ntmps33
      go_wp2_with (go_at_call 41; refine (long_any _ _ _ _).mono ?_; rintro e w' ⟨rfl, rfl⟩)
      refine (rFiner_any A B 0 c 0 d gs hs _ hR hS Hn.out Hm.out hmax hmax2).mono ?_
      rintro e w1 ⟨rfl, hb1⟩
      rw [← HFV.out]
      unfold boolE
      go_wp2_with fail
      refine (wFiner_any A B 0 c 0 d gs hs _ (hR.bel (by (repeat (first | exact Bel.refl _ | assumption | refine Bel.drew ?_ | refine Bel.drewN ?_ _ | refine Bel.alloc ?_ _ | refine Bel.setCell ?_ (by first | omega | (simp; done) | (simp; omega) | (simp at *; omega)) _ | refine Bel.trans ?_ (by assumption))))) (hS.bel (by (repeat (first | exact Bel.refl _ | assumption | refine Bel.drew ?_ | refine Bel.drewN ?_ _ | refine Bel.alloc ?_ _ | refine Bel.setCell ?_ (by first | omega | (simp; done) | (simp; omega) | (simp at *; omega)) _ | refine Bel.trans ?_ (by assumption))))) Hn.out Hm.out hmax hmax2).mono ?_
      rintro e w2 ⟨rfl, hb2⟩
      rw [← HFV.out]
      unfold boolE
      go_wp2_with fail
      refine (wFiner_any B A 0 d 0 c hs gs _ (hS.bel (by (repeat (first | exact Bel.refl _ | assumption | refine Bel.drew ?_ | refine Bel.drewN ?_ _ | refine Bel.alloc ?_ _ | refine Bel.setCell ?_ (by first | omega | (simp; done) | (simp; omega) | (simp at *; omega)) _ | refine Bel.trans ?_ (by assumption))))) (hR.bel (by (repeat (first | exact Bel.refl _ | assumption | refine Bel.drew ?_ | refine Bel.drewN ?_ _ | refine Bel.alloc ?_ _ | refine Bel.setCell ?_ (by first | omega | (simp; done) | (simp; omega) | (simp at *; omega)) _ | refine Bel.trans ?_ (by assumption))))) Hm.out Hn.out hmax2 hmax).mono ?_
      rintro e w3 ⟨rfl, hb3⟩
      rw [HBV.out]
      unfold boolE
      go_wp2_with fail
      refine (sameLot_any A B 0 c 0 d gs hs _ (hR.bel (by (repeat (first | exact Bel.refl _ | assumption | refine Bel.drew ?_ | refine Bel.drewN ?_ _ | refine Bel.alloc ?_ _ | refine Bel.setCell ?_ (by first | omega | (simp; done) | (simp; omega) | (simp at *; omega)) _ | refine Bel.trans ?_ (by assumption))))) (hS.bel (by (repeat (first | exact Bel.refl _ | assumption | refine Bel.drew ?_ | refine Bel.drewN ?_ _ | refine Bel.alloc ?_ _ | refine Bel.setCell ?_ (by first | omega | (simp; done) | (simp; omega) | (simp at *; omega)) _ | refine Bel.trans ?_ (by assumption))))) Hn.out Hm.out hmax hmax2).mono ?_
      rintro e w4 ⟨rfl, hb4⟩
      generalize same gs hs = sb
      cases sb
      all_goals
        go_wp2_with fail
        refine (wMean_any A 0 c gs _ (hR.bel (by (repeat (first | exact Bel.refl _ | assumption | refine Bel.drew ?_ | refine Bel.drewN ?_ _ | refine Bel.alloc ?_ _ | refine Bel.setCell ?_ (by first | omega | (simp; done) | (simp; omega) | (simp at *; omega)) _ | refine Bel.trans ?_ (by assumption))))) Hn.out (by omega)).mono ?_
        rintro e w5 ⟨rfl, hb5⟩
        rw [HM1.out]
        unfold ratE
        go_wp2_with fail
        refine (wMean_any B 0 d hs _ (hS.bel (by (repeat (first | exact Bel.refl _ | assumption | refine Bel.drew ?_ | refine Bel.drewN ?_ _ | refine Bel.alloc ?_ _ | refine Bel.setCell ?_ (by first | omega | (simp; done) | (simp; omega) | (simp at *; omega)) _ | refine Bel.trans ?_ (by assumption))))) Hm.out (by omega)).mono ?_
        rintro e w6 ⟨rfl, hb6⟩
        rw [HM2.out]
        unfold ratE
        go_wp2_with (go_at_call 24; refine (known_any _).mono ?_; rintro e w7 ⟨rfl, hb7⟩)
        go_ret
        exact ⟨rfl, by (repeat (first | exact Bel.refl _ | assumption | refine Bel.drew ?_ | refine Bel.drewN ?_ _ | refine Bel.alloc ?_ _ | refine Bel.setCell ?_ (by first | omega | (simp; done) | (simp; omega) | (simp at *; omega)) _ | refine Bel.trans ?_ (by assumption)))⟩
    · have hm0 : m ≠ 0 := by
        have q1 := sumM_bd (fit_of gs e1)
        have q2 := sumM_bd (fit_of hs e2)
        omega
      have HM1 := Lib.hid (mean_some e1 (by omega))
      have HM2 := Lib.hid (mean_some e2 (by omega))
      obtain ⟨⟨x1, x2⟩, x3, x4⟩ := mean_bd e1 (by omega)
      obtain ⟨⟨y1, y2⟩, y3, y4⟩ := mean_bd e2 (by omega)
      have hle := mean_le (fit_of gs e1) (fit_of hs e2) e3 (by have q1 := sumM_bd (fit_of gs e1); omega) hfb
      generalize num (sumS gs) (sumM gs) = a1 at *
      generalize den (sumS gs) (sumM gs) = a2 at *
      generalize num (sumS hs) (sumM hs) = b1 at *
      generalize den (sumS hs) (sumM hs) = b2 at *
      obtain ⟨z1, z2⟩ := mul_bd (A := 12000) (B := 600) x1 x2 (by omega : 0 ≤ b2) y4
      obtain ⟨z3, z4⟩ := mul_bd (A := 12000) (B := 600) y1 y2 (by omega : 0 ≤ a2) x4
      have hsm : SmallL [(a1, a2), (b1, b2)] := by
        intro x hx
        simp at hx
        rcases hx with rfl | rfl
        · simp only; omega
        · simp only; omega
      have Hn := Lib.hid hn; clear hn
      have Hm := Lib.hid hm; clear hm
      clear e1 e2 e3 he hfb hm0
      have h0' : ((n : Int) == 0) = false := by simp; omega
      go_enter Try.func33, Try.ntmps33
      go_wp2_with (go_at_call 41; refine (long_any _ _ _ _).mono ?_; rintro e w' ⟨rfl, rfl⟩)
      refine (rFiner_any A B n c m d gs hs _ hR hS Hn.out Hm.out hmax hmax2).mono ?_
      rintro e w1 ⟨rfl, hc1⟩
      rw [← HFV.out]
      unfold boolE
      go_wp2_with fail
      refine (wFiner_any A B n c m d gs hs _ (hR.bel (by (repeat (first | exact Bel.refl _ | assumption | refine Bel.drew ?_ | refine Bel.drewN ?_ _ | refine Bel.alloc ?_ _ | refine Bel.setCell ?_ (by first | omega | (simp; done) | (simp; omega) | (simp at *; omega)) _ | refine Bel.trans ?_ (by assumption))))) (hS.bel (by (repeat (first | exact Bel.refl _ | assumption | refine Bel.drew ?_ | refine Bel.drewN ?_ _ | refine Bel.alloc ?_ _ | refine Bel.setCell ?_ (by first | omega | (simp; done) | (simp; omega) | (simp at *; omega)) _ | refine Bel.trans ?_ (by assumption))))) Hn.out Hm.out hmax hmax2).mono ?_
      rintro e w2 ⟨rfl, hc2⟩
      rw [← HFV.out]
      unfold boolE
      go_wp2_with fail
      refine (wFiner_any B A m d n c hs gs _ (hS.bel (by (repeat (first | exact Bel.refl _ | assumption | refine Bel.drew ?_ | refine Bel.drewN ?_ _ | refine Bel.alloc ?_ _ | refine Bel.setCell ?_ (by first | omega | (simp; done) | (simp; omega) | (simp at *; omega)) _ | refine Bel.trans ?_ (by assumption))))) (hR.bel (by (repeat (first | exact Bel.refl _ | assumption | refine Bel.drew ?_ | refine Bel.drewN ?_ _ | refine Bel.alloc ?_ _ | refine Bel.setCell ?_ (by first | omega | (simp; done) | (simp; omega) | (simp at *; omega)) _ | refine Bel.trans ?_ (by assumption))))) Hm.out Hn.out hmax2 hmax).mono ?_
      rintro e w3 ⟨rfl, hc3⟩
      rw [HBV.out]
      unfold boolE
      go_wp2_with fail
      refine (sameLot_any A B n c m d gs hs _ (hR.bel (by (repeat (first | exact Bel.refl _ | assumption | refine Bel.drew ?_ | refine Bel.drewN ?_ _ | refine Bel.alloc ?_ _ | refine Bel.setCell ?_ (by first | omega | (simp; done) | (simp; omega) | (simp at *; omega)) _ | refine Bel.trans ?_ (by assumption))))) (hS.bel (by (repeat (first | exact Bel.refl _ | assumption | refine Bel.drew ?_ | refine Bel.drewN ?_ _ | refine Bel.alloc ?_ _ | refine Bel.setCell ?_ (by first | omega | (simp; done) | (simp; omega) | (simp at *; omega)) _ | refine Bel.trans ?_ (by assumption))))) Hn.out Hm.out hmax hmax2).mono ?_
      rintro e w4 ⟨rfl, hc4⟩
      generalize same gs hs = sb
      cases sb
      all_goals
        go_wp2_with fail
        refine (wMean_any A n c gs _ (hR.bel (by (repeat (first | exact Bel.refl _ | assumption | refine Bel.drew ?_ | refine Bel.drewN ?_ _ | refine Bel.alloc ?_ _ | refine Bel.setCell ?_ (by first | omega | (simp; done) | (simp; omega) | (simp at *; omega)) _ | refine Bel.trans ?_ (by assumption))))) Hn.out (by omega)).mono ?_
        rintro e w5 ⟨rfl, hc5⟩
        rw [HM1.out]
        unfold ratE
        go_wp2_with fail
        refine (wMean_any B m d hs _ (hS.bel (by (repeat (first | exact Bel.refl _ | assumption | refine Bel.drew ?_ | refine Bel.drewN ?_ _ | refine Bel.alloc ?_ _ | refine Bel.setCell ?_ (by first | omega | (simp; done) | (simp; omega) | (simp at *; omega)) _ | refine Bel.trans ?_ (by assumption))))) Hm.out (by omega)).mono ?_
        rintro e w6 ⟨rfl, hc6⟩
        rw [HM2.out]
        unfold ratE
        have hl5 : w5.heap.size < w6.heap.size := by have h1 := hc6.size; simp at h1; omega
        have t1 : w6.cell? ⟨w5.heap.size, 0, none⟩ = some (.int .i64 a1) := by rw [hc6.use.1 _ _ (by simp)]; go_simp
        have t2 : w6.cell? ⟨w5.heap.size, 1, none⟩ = some (.int .i64 a2) := by rw [hc6.use.1 _ _ (by simp)]; go_simp
        have hb06 : Bel w w6 := by (repeat (first | exact Bel.refl _ | assumption | refine Bel.drew ?_ | refine Bel.drewN ?_ _ | refine Bel.alloc ?_ _ | refine Bel.setCell ?_ (by first | omega | (simp; done) | (simp; omega) | (simp at *; omega)) _ | refine Bel.trans ?_ (by assumption)))
        clear hc1 hc2 hc3 hc4 hc5
        go_wp2_with (first | (go_at_call 64; refine (small_any _ 2 2 [(a1, a2), (b1, b2)] _ (prs_lit (w6.alloc (.cells #[.int .i64 b1, .int .i64 b2] 29)) a1 a2 b1 b2 29 (w6.heap.size + 1) (by simp)) rfl (by omega) hsm).mono ?_; rintro e w' ⟨rfl, rfl⟩) | (go_at_call 24; refine (known_any _).mono ?_; rintro e w7 ⟨rfl, hb7⟩))
        go_ret
        exact ⟨rfl, by (repeat (first | exact Bel.refl _ | assumption | refine Bel.drew ?_ | refine Bel.drewN ?_ _ | refine Bel.alloc ?_ _ | refine Bel.setCell ?_ (by first | omega | (simp; done) | (simp; omega) | (simp at *; omega)) _ | refine Bel.trans ?_ (by assumption)))⟩
  · have hcase : (f2 != 0) = true ∨ (f2 = 0 ∧ f1 = false) := by
      by_cases hz : f2 = 0
      · right
        refine ⟨hz, ?_⟩
        cases f1
        · rfl
        · exact absurd ⟨hz, rfl⟩ hok
      · left; simpa using hz
    have HFV := Lib.hid hfv; clear hfv hok
    rcases hcase with hc | ⟨rfl, rfl⟩
    all_goals
      go_enter Try.func33, Try.ntmps33
      go_wp2_with (go_at_call 41; refine (long_any _ _ _ _).mono ?_; rintro e w' ⟨rfl, rfl⟩)
      refine (rFiner_any A B n c m d gs hs _ hR hS hn hm hmax hmax2).mono ?_
      rintro e w1 ⟨rfl, hb1⟩
      rw [← HFV.out]
      unfold boolE
      go_wp2_with fail
      refine (wFiner_any A B n c m d gs hs _ (hR.bel (by (repeat (first | exact Bel.refl _ | assumption | refine Bel.drew ?_ | refine Bel.drewN ?_ _ | refine Bel.alloc ?_ _ | refine Bel.setCell ?_ (by first | omega | (simp; done) | (simp; omega) | (simp at *; omega)) _ | refine Bel.trans ?_ (by assumption))))) (hS.bel (by (repeat (first | exact Bel.refl _ | assumption | refine Bel.drew ?_ | refine Bel.drewN ?_ _ | refine Bel.alloc ?_ _ | refine Bel.setCell ?_ (by first | omega | (simp; done) | (simp; omega) | (simp at *; omega)) _ | refine Bel.trans ?_ (by assumption))))) hn hm hmax hmax2).mono ?_
      rintro e w2 ⟨rfl, hb2⟩
      rw [← HFV.out]
      unfold boolE
      go_wp2_with (go_at_call 24; refine (known_any _).mono ?_; rintro e w7 ⟨rfl, hb7⟩)
      go_ret
      exact ⟨rfl, by (repeat (first | exact Bel.refl _ | assumption | refine Bel.drew ?_ | refine Bel.drewN ?_ _ | refine Bel.alloc ?_ _ | refine Bel.setCell ?_ (by first | omega | (simp; done) | (simp; omega) | (simp at *; omega)) _ | refine Bel.trans ?_ (by assumption)))⟩

set_option maxHeartbeats 400000 in
theorem walk (A : Option Addr) (n c : Nat) (zs : List (Int × Int)) (B : Option Addr) (m d : Nat) (ys : List (Int × Int)) (w : World) (a : Arg2 w A n c zs) (b : Arg2 w B m d ys) :
    Calls Try.prog 12 #[.slice A n c, .slice B m d] w fun e w' => e = .returned (.bool true) ∧ Bel w w' := by
  obtain ⟨e1, e2, e3⟩ := a.els
  obtain ⟨f1, f2, f3⟩ := b.els
  have hcm := (reachN_le a.reach (by omega)).2
  have hcm2 := (reachN_le b.reach (by omega)).2
  go_enter Try.func12, Try.ntmps12
  go_wp2_with fail
  refine (keepGrains_any A n c zs _ (a.prs.bel (by (repeat (first | exact Bel.refl _ | assumption | refine Bel.drew ?_ | refine Bel.drewN ?_ _ | refine Bel.alloc ?_ _ | refine Bel.setCell ?_ (by first | omega | (simp; done) | (simp; omega) | (simp at *; omega)) _ | refine Bel.trans ?_ (by assumption))))) a.len a.le a.nil a.reach).mono ?_
  rintro e w1 ⟨A', n', c', rfl, hn', hb1, hr1⟩
  have HN := Lib.hid hn'; clear hn'
  have hb01 : Bel w w1 := by (repeat (first | exact Bel.refl _ | assumption | refine Bel.drew ?_ | refine Bel.drewN ?_ _ | refine Bel.alloc ?_ _ | refine Bel.setCell ?_ (by first | omega | (simp; done) | (simp; omega) | (simp at *; omega)) _ | refine Bel.trans ?_ (by assumption)))
  go_wp2_with fail
  refine (keepGrains_any B m d ys _ (b.prs.bel hb01) b.len b.le b.nil b.reach).mono ?_
  rintro e w2 ⟨B', m', d', rfl, hm', hb2, hr2⟩
  have HM := Lib.hid hm'; clear hm'
  have hb02 : Bel w w2 := hb01.trans hb2
  go_wp2_with fail
  refine (inner A B n c m d _ _ _ (e1.bel hb02) (f1.bel hb02) e2 f2).mono ?_
  rintro e w3 ⟨rfl, hb3⟩
  go_wp2_with fail
  refine (keptGrains_any A' A n' c' n c zs _ (hr1.bel (hb2.trans hb3)) (a.prs.bel (hb02.trans hb3)) HN.out.symm a.len a.le a.nil (reachN_le a.reach (by omega)).1).mono ?_
  rintro e w4 ⟨rfl, hb4⟩
  have hb24 := hb3.trans hb4
  go_wp2_with fail
  refine (keptGrains_any B' B m' d' m d ys _ (hr2.bel hb24) (b.prs.bel (hb02.trans hb24)) HM.out.symm b.len b.le b.nil (reachN_le b.reach (by omega)).1).mono ?_
  rintro e w5 ⟨rfl, hb5⟩
  go_wp2
  go_ret
  exact ⟨rfl, (hb02.trans hb24).trans hb5⟩

set_option maxRecDepth 100000 in
theorem lifted (os : Os) (started : os.Started) (H : Type) (enc : TypeId × Value → H) :
    ReturnsInHanded {} Try.checked os 12 .any (Rows.washFinerSpec.pre6 enc Try.prog Try.f12 Rows.washFinerRow.domain false) (Rows.washFinerSpec.post enc Try.prog Try.f12 false true false false) := by
  refine returnsInHanded_of_change_sized (C := Try.checked) own started (by kernel_rfl) Try.func12
    (ChangeSpec.witness6 (enc := enc) (C := Try.checked) false ⟨#[], #[.slice none 0 0, .slice none 0 0], []⟩ 8 (by kernel_rfl) (by kernel_rfl) (by kernel_rfl) (by kernel_rfl)) ?_
  intro W base args ds gs before hval0 hW hcnd hsz0 _
  have hval : ∀ (j : Nat) t v, Try.f12.params[j]? = some t → args[j]? = some v → Value.okWide Try.prog W .any base t v := hval0
  have hsz : (DataW.weightsEach Try.prog (Try.f12.params.toList ++ Rows.washFinerSpec.plain.varTypes Try.prog) (ds ++ gs)).all (· ≤ reachBytes) = true := hsz0
  have hW' := hW
  obtain ⟨p, q, hA0, hV, rfl, hfz, hnd⟩ := hW
  have hA : DataW.TrodAll enc Try.prog W 0 (fun _ => true) true Try.f12.params.toList args.toList ds p := hA0
  rw [Try.params12] at hA hval hsz
  obtain ⟨v0, vs0, d0, ds0, p0, q0, hargs, rfl, rfl, h0, r0⟩ := trodAll_cons hA
  obtain ⟨v1, vs1, d1, ds1, p1, q1, rfl, rfl, rfl, h1, r1⟩ := trodAll_cons r0
  obtain ⟨rfl, rfl, rfl⟩ := trodAll_nil r1
  obtain rfl : args = #[v0, v1] := by cases args; simp_all
  obtain ⟨rfl, rfl⟩ := trodVars_none hV
  have k0 := h0
  have lt0 : ∀ x ∈ p0, x.block < W.heap.size := by obtain ⟨m, hm⟩ := k0; exact DataW.trod_lt m _ _ _ hm
  have k1 := h1
  have lt1 : ∀ x ∈ p1, x.block < W.heap.size := by obtain ⟨m, hm⟩ := k1; exact DataW.trod_lt m _ _ _ hm
  have hr0 : ∀ es sp, d0 = .slice es sp → (es.length + sp.length) * 16 ≤ reachN := by
    intro es sp hd
    have := sized_slice (elems := es) (spare := sp) hsz (j := 0) (t := 22) (e := 58) rfl (by rw [hd]; rfl) Try.underlying22
    rw [bytesGrain] at this
    exact this
  obtain ⟨A0, n0, c0, zs0, rfl, a0⟩ := open_arg2 (hval 0 22 v0 rfl rfl) h0 hr0
  have hr1 : ∀ es sp, d1 = .slice es sp → (es.length + sp.length) * 16 ≤ reachN := by
    intro es sp hd
    have := sized_slice (elems := es) (spare := sp) hsz (j := 1) (t := 22) (e := 58) rfl (by rw [hd]; rfl) Try.underlying22
    rw [bytesGrain] at this
    exact this
  obtain ⟨A1, n1, c1, zs1, rfl, a1⟩ := open_arg2 (hval 1 22 v1 rfl rfl) h1 hr1
  clear hA0 hval0
  refine (walk A0 n0 c0 zs0 A1 n1 c1 zs1 W a0 a1).mono fun e W' ⟨he, bel⟩ => ?_
  subst he
  exact ⟨_, rfl, _, _, _, [], _, [], hW', trodAll_mk1 (shut_bool Try.underlying4 _), trodAll_cons_mk (Below.trod laidOut (by kernel_rfl) (of_decide_eq_true (by kernel_rfl)) k0 bel lt0) (trodAll_cons_mk (Below.trod laidOut (by kernel_rfl) (of_decide_eq_true (by kernel_rfl)) k1 bel lt1) (trodAll_mk0)), rfl, Below.frame bel _, fun h => by cases h⟩

theorem over : Rows.washFinerRow.holds Try.pinned (OpenSpec.ofChange Rows.washFinerSpec) :=
  OpenClaim.holds_of_wide 12 Try.f12 rfl rfl rfl rfl rfl rfl rfl ⟨rfl, rfl, rfl, rfl, rfl⟩ rfl rfl rfl rfl rfl (by kernel_rfl) Try.func12 (by kernel_rfl)
    (of_decide_eq_true (by kernel_rfl)) (by unfold Func.isWrapper; rw [if_neg (of_decide_eq_false (by kernel_rfl))]; exact ⟨rfl, rfl⟩)
    (fun os started H enc _ => lifted os started H enc)

/-- The statement. -/
theorem proved : Rows.WashFinerSaid := over
end Go.Proofs.Ytnlcndhbamcpdaa.washFiner
