/- The document's Time. -/
import Derived.Test.YtnlcndhbamcpdaaV
namespace Go.Proofs.Ytnlcndhbamcpdaa
open Go.RowKit

set_option maxHeartbeats 1000000 in
theorem rTime_ok (A : Option Addr) (n c : Nat) (gs : List (Int × Int)) (d nu de : Int) (w : World) (hR : Prs w A gs) (hn : gs.length = n) (he : errV gs = 0) (g1 : within d 1 20 = true) (g2 : within de 1 100 = true) (g3 : within nu 0 de = true) :
    Calls Try.prog 70 #[.slice A n c, .int .i64 d, .int .i64 nu, .int .i64 de] w (TimeOk w gs d nu de) := by
  obtain ⟨d1, d2⟩ := within_iff.1 g1
  obtain ⟨q1, q2⟩ := within_iff.1 g2
  obtain ⟨n1, n2⟩ := within_iff.1 g3
  have g0 : within 0 0 100 = true := by decide
  have hm := fit_of gs he
  have h6 := (errV_zero he).1
  rw [hn] at h6
  have hfull := sinks_full (gs := gs) (d := d) (nu := nu) (de := de) hm d1 d2 n2
  have HFull := Lib.hid hfull; clear hfull
  obtain ⟨s1, s2⟩ := sumM_bd hm
  rw [hn] at s1 s2
  have s3 : 0 ≤ sumM gs ∧ sumM gs ≤ 600 := by omega
  clear s1 s2
  obtain ⟨p1, p2⟩ := mul_bd (A := 100) (B := 600) n1 (by omega : nu ≤ 100) s3.1 s3.2
  obtain ⟨p3, p4⟩ := mul_bd (A := 60000) (B := 20) p1 (by omega) (by omega : 0 ≤ d) d2
  have hbd := fun t ht k => sunkD_bd (t := t) (hm.take k) ht d1 d2
  have HBd := Lib.hid hbd; clear hbd
  have HM := Lib.hid (sumB_all hm)
  have Hn := Lib.hid hn; clear hn
  have HE := Lib.hid he; clear he
  go_enter Try.func70, Try.ntmps70
  go_wp2_with fail
  refine (rvalidate_any A n c gs _ hR Hn.out (by unfold maxLen; omega)).mono ?_
  rintro e w1 ⟨rfl, hb1⟩
  rw [HE.out]
  go_wp2_with (first | (go_at_call 52; refine (settling_any _ _ _).mono ?_; rintro e w' ⟨rfl, rfl⟩) | (go_at_call 53; refine (within_any _ _ _ _).mono ?_; rintro e w' ⟨rfl, rfl⟩))
  go_loopw [11, 12, 13] (fun i _ _ wr => ∃ k : Nat, k ≤ 100 ∧ i = .int .i64 k ∧ Bel w wr ∧ ∀ j, j < k → ¬ Sinks gs d nu de j) (fun i _ _ _ => 100 - (intOf i).toNat)
  case atStart => exact ⟨0, by omega, rfl, hb1, fun j hj => by omega⟩
  case round =>
    obtain ⟨k, hk, rfl, hb, hj⟩ := hrel
    have HJ := Lib.hid hj; clear hj
    have hkc : (0 : Int) ≤ (k : Int) ∧ (k : Int) ≤ 100 := by omega
    obtain ⟨wo, rfl⟩ : ∃ wo : World, wo = wr := ⟨_, rfl⟩
    go_wp2
    go_loopw [12, 13] (fun a i wr => ∃ j : Nat, j ≤ n ∧ i = .int .i64 j ∧ a = .int .i64 (sunkD (gs.take j) k d) ∧ Bel w wr) (fun _ i _ => n - (intOf i).toNat)
    case atStart => exact ⟨0, Nat.zero_le _, rfl, by simp [sunkD], hb⟩
    case round =>
      obtain ⟨j, hj, rfl, rfl, hbj⟩ := hrel
      by_cases hlt : j < n
      · obtain ⟨b, o, s, m, rfl, hbl, hg, hc1, hc2⟩ := (hR.bel hbj).at_ (k := j) (by rw [Hn.out]; exact hlt)
        obtain ⟨⟨hm3, hm4⟩, hm1, hm2⟩ := hm (s, m) (List.mem_of_getElem? hg)
        obtain ⟨hs1, hs2⟩ := HBd.out k hkc.1 j
        have hl := List.length_take_le j gs
        have hs3 : sunkD (gs.take j) k d ≤ 12000 := by omega
        clear hs2 hl
        have HT := Lib.hid (take_at hg)
        have HS := Lib.hid (sunkD_snoc (gs.take j) s m k d)
        clear hg hm
        simp only at hm1 hm2 hm3 hm4
        obtain ⟨y1, y2⟩ := mul_bd (A := 20) (B := 100) (by omega : 0 ≤ s) hm4 hkc.1 hkc.2
        obtain ⟨y3, y4⟩ := skn_bd (s := s) (t := k) (d := d) (by omega) hkc.1 d1
        obtain ⟨y5, y6⟩ := mul_bd (A := 100) (B := 20) (by omega : 0 ≤ m) hm2 y3 (by omega)
        have hkn : (j : Int) < (n : Int) := by omega
        have hk0 : (0 : Int) ≤ (j : Int) := by omega
        have W1 := IntWalk.i64_in (m * skn s k d) (by omega)
        have W2 := IntWalk.i64_in (sunkD (gs.take j) k d + m * skn s k d) (by omega)
        go_wp2
        go_quiet ((go_at_call 55; exact Calls.quiet_of_same ((sinks_any _ _ _ _ (by omega) (by omega)).mono fun _ _ h => ⟨h.1, h.2.symm⟩)))
        clear W1 W2
        go_wp2
        go_roundw
        case rel => exact ⟨j + 1, by omega, by go_num, by rw [HT.out, HS.out], by (repeat (first | exact Bel.refl _ | assumption | refine Bel.drew ?_ | refine Bel.drewN ?_ _ | refine Bel.alloc ?_ _ | refine Bel.setCell ?_ (by first | omega | (simp; done) | (simp; omega) | (simp at *; omega)) _ | refine Bel.trans ?_ (by assumption)))⟩
        case measure => simp [intOf]; omega
      · obtain rfl : j = n := by omega
        have ht : gs.take j = gs := List.take_of_length_le (by rw [Hn.out]; omega)
        obtain ⟨b1, b2⟩ := HBd.out k hkc.1 j
        rw [ht] at b1 b2 ⊢
        rw [Hn.out] at b2
        clear ht
        have b3 : sunkD gs k d ≤ 12000 := by omega
        clear b2
        obtain ⟨b4, b5⟩ := mul_bd (A := 12000) (B := 100) b1 b3 (by omega : 0 ≤ de) q2
        by_cases hs : Sinks gs d nu de k
        · have hlt2 : nu * sumM gs * d ≤ sunkD gs k d * de := hs
          have HS := Lib.hid hs; clear hs
          go_wp2_with fail
          refine (below_any A j c gs 20 _ (hR.bel hbj) Hn.out (by omega) hm.mass).mono ?_
          rintro e w2 ⟨rfl, rfl⟩
          rw [HM.out]
          go_wp2
          go_ret2
          exact ⟨k, ⟨hk, HS.out, HJ.out⟩, rfl, hbj⟩
        · have hlt2 : ¬ nu * sumM gs * d ≤ sunkD gs k d * de := hs
          have hk100 : k ≠ 100 := by
            rintro rfl
            exact hs HFull.out
          have HS := Lib.hid hs; clear hs
          go_wp2_with fail
          refine (below_any A j c gs 20 _ (hR.bel hbj) Hn.out (by omega) hm.mass).mono ?_
          rintro e w2 ⟨rfl, rfl⟩
          rw [HM.out]
          go_wp2
          go_roundw
          case rel =>
            refine ⟨k + 1, by omega, by go_num, hbj, fun j hj => ?_⟩
            by_cases hjk : j = k
            · subst hjk; exact HS.out
            · exact HJ.out j (by omega)
          case measure => simp [intOf]; omega

set_option maxHeartbeats 400000 in
theorem rTime_err (A : Option Addr) (n c : Nat) (gs : List (Int × Int)) (d nu de : Int) (w : World) (hR : Prs w A gs) (hn : gs.length = n) (hmax : n ≤ maxLen) (x : Int)
    (hx : (errV gs = x ∧ x ≠ 0) ∨ (errV gs = 0 ∧ (within d 1 20 && within de 1 100 && within nu 0 de) = false ∧ x = 1)) :
    Calls Try.prog 70 #[.slice A n c, .int .i64 d, .int .i64 nu, .int .i64 de] w fun e w' => e = .returned (.tuple #[.int .i64 0, .int .i64 x]) ∧ Bel w w' := by
  rcases hx with ⟨hx, h0⟩ | ⟨hx, h0, rfl⟩
  · have HX := Lib.hid hx; clear hx
    have hne : (x != 0) = true := by simpa using h0
    clear h0
    go_enter Try.func70, Try.ntmps70
    go_wp2_with fail
    refine (rvalidate_any A n c gs _ hR hn hmax).mono ?_
    rintro e w1 ⟨rfl, hb1⟩
    rw [HX.out]
    go_wp2
    go_ret2
    exact ⟨rfl, hb1⟩
  · have HX := Lib.hid hx; clear hx
    have g0 : within 0 0 100 = true := by decide
    cases g1 : within d 1 20 <;> cases g2 : within de 1 100 <;> cases g3 : within nu 0 de
    case true.true.true => simp [g1, g2, g3] at h0
    all_goals
      clear h0
      go_enter Try.func70, Try.ntmps70
      go_wp2_with fail
      refine (rvalidate_any A n c gs _ hR hn hmax).mono ?_
      rintro e w1 ⟨rfl, hb1⟩
      rw [HX.out]
      go_wp2_with (first | (go_at_call 52; refine (settling_any _ _ _).mono ?_; rintro e w' ⟨rfl, rfl⟩) | (go_at_call 53; refine (within_any _ _ _ _).mono ?_; rintro e w' ⟨rfl, rfl⟩))
      go_ret2
      exact ⟨rfl, hb1⟩
end Go.Proofs.Ytnlcndhbamcpdaa
