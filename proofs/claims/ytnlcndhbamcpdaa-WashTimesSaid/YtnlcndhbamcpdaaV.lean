/- Time. -/
import Derived.Test.YtnlcndhbamcpdaaR
namespace Go.Proofs.Ytnlcndhbamcpdaa
open Go.RowKit

/-- What sinks, times the depth. -/
def sunkD (gs : List (Int × Int)) (t d : Int) : Int := (gs.map fun g => g.2 * skn g.1 t d).sum
theorem sunkD_snoc (gs : List (Int × Int)) (s m t d : Int) : sunkD (gs ++ [(s, m)]) t d = sunkD gs t d + m * skn s t d := by simp [sunkD]
theorem sunkD_bd {gs : List (Int × Int)} {t d : Int} (h : Fit gs) (ht : 0 ≤ t) (hd : 1 ≤ d) (hd2 : d ≤ 20) : 0 ≤ sunkD gs t d ∧ sunkD gs t d ≤ 2000 * gs.length := by
  induction gs with
  | nil => simp [sunkD]
  | cons g r ih =>
    have h1 := ih fun x hx => h x (by simp [hx])
    obtain ⟨⟨a, b⟩, c, e⟩ := h g (by simp)
    obtain ⟨k1, k2⟩ := skn_bd (s := g.1) (t := t) (d := d) (by omega) ht hd
    obtain ⟨p1, p2⟩ := mul_bd (A := 100) (B := 20) (by omega : 0 ≤ g.2) e k1 (by omega)
    have e : sunkD (g :: r) t d = g.2 * skn g.1 t d + sunkD r t d := by simp [sunkD]
    rw [e, List.length_cons]
    omega
theorem sunkD_full {gs : List (Int × Int)} {d : Int} (h : Fit gs) (hd : 1 ≤ d) (hd2 : d ≤ 20) : sunkD gs 100 d = sumM gs * d := by
  induction gs with
  | nil => simp [sunkD, sumM]
  | cons g r ih =>
    obtain ⟨⟨a, b⟩, c, e⟩ := h g (by simp)
    have e1 : sunkD (g :: r) 100 d = g.2 * skn g.1 100 d + sunkD r 100 d := by simp [sunkD]
    have e2 : sumM (g :: r) = g.2 + sumM r := by simp [sumM]
    have e3 : skn g.1 100 d = d := by unfold skn; omega
    rw [e1, e2, e3, ih fun x hx => h x (by simp [hx]), Int.add_mul]
/-- At least the part sinks in the time. -/
def Sinks (gs : List (Int × Int)) (d nu de : Int) (t : Nat) : Prop := nu * sumM gs * d ≤ sunkD gs t d * de
/-- The smallest such time. -/
def Small (gs : List (Int × Int)) (d nu de : Int) (t : Nat) : Prop := t ≤ 100 ∧ Sinks gs d nu de t ∧ ∀ j, j < t → ¬ Sinks gs d nu de j
theorem Small.unique {gs : List (Int × Int)} {d nu de : Int} {t t' : Nat} (h : Small gs d nu de t) (h' : Small gs d nu de t') : t = t' := by
  rcases Nat.lt_trichotomy t t' with a | a | a
  · exact absurd h.2.1 (h'.2.2 t a)
  · exact a
  · exact absurd h'.2.1 (h.2.2 t' a)
theorem sinks_full {gs : List (Int × Int)} {d nu de : Int} (h : Fit gs) (hd : 1 ≤ d) (hd2 : d ≤ 20) (h2 : nu ≤ de) : Sinks gs d nu de 100 := by
  unfold Sinks
  have e : sunkD gs ((100 : Nat) : Int) d = sumM gs * d := sunkD_full h hd hd2
  rw [e, Int.mul_assoc, Int.mul_comm nu]
  have := (sumM_bd h).1
  exact Int.mul_le_mul_of_nonneg_left h2 (Int.mul_nonneg (by omega) (by omega))
/-- A smaller part takes no more. -/
theorem Small.le {gs : List (Int × Int)} {d nu de : Int} {t t' : Nat} (hf : Fit gs) (hd : 1 ≤ d) (h : Small gs d nu de t) (h' : Small gs d (nu - 1) de t') : t' ≤ t := by
  apply Nat.le_of_not_lt
  intro hlt
  apply h'.2.2 t hlt
  have h1 := h.2.1
  unfold Sinks at h1 ⊢
  have h2 := (sumM_bd hf).1
  have e : (nu - 1) * sumM gs * d = nu * sumM gs * d - sumM gs * d := by rw [Int.sub_mul, Int.sub_mul, Int.one_mul]
  have h3 : 0 ≤ sumM gs * d := Int.mul_nonneg (by omega) (by omega)
  omega
def TimeOk (w : World) (gs : List (Int × Int)) (d nu de : Int) (e : Ending) (w' : World) : Prop := ∃ t : Nat, Small gs d nu de t ∧ e = .returned (.tuple #[.int .i64 t, .int .i64 0]) ∧ Bel w w'

set_option maxHeartbeats 400000 in
theorem sunk_any (A : Option Addr) (n c : Nat) (gs : List (Int × Int)) (t d : Int) (w : World) (hR : Prs w A gs) (hn : gs.length = n) (hlen : n ≤ 40) (hm : Fit gs) (t1 : 0 ≤ t) (t2 : t ≤ 100) (d1 : 1 ≤ d) (d2 : d ≤ 20) :
    Calls Try.prog 99 #[.slice A n c, .int .i64 t, .int .i64 d] w fun e w' => e = .returned (.int .i64 (sunkD gs t d)) ∧ Bel w w' := by
  have Hn := Lib.hid hn; clear hn
  go_enter Try.func99, Try.ntmps99
  go_wp2
  go_loopw [7, 9, 12] (fun a _ i wr => ∃ k : Nat, k ≤ n ∧ i = .int .i64 k ∧ a = .int .i64 (sunkD (gs.take k) t d) ∧ Bel w wr) (fun _ _ i _ => n - (intOf i).toNat)
  case atStart => exact ⟨0, Nat.zero_le _, rfl, by simp [sunkD], Bel.refl _⟩
  case round =>
    obtain ⟨k, hk, rfl, rfl, hb⟩ := hrel
    by_cases hlt : k < n
    · obtain ⟨b, o, s, m, rfl, hbl, hg, hc1, hc2⟩ := (hR.bel hb).at_ (k := k) (by rw [Hn.out]; exact hlt)
      obtain ⟨⟨hm3, hm4⟩, hm1, hm2⟩ := hm (s, m) (List.mem_of_getElem? hg)
      obtain ⟨hs1, hs2⟩ := sunkD_bd (hm.take k) t1 d1 d2
      have hl := List.length_take_le k gs
      have HT := Lib.hid (take_at hg)
      have HS := Lib.hid (sunkD_snoc (gs.take k) s m t d)
      clear hg hm
      simp only at hm1 hm2 hm3 hm4
      obtain ⟨p1, p2⟩ := mul_bd (A := 20) (B := 100) (by omega : 0 ≤ s) hm4 t1 t2
      rcases Int.lt_or_le (s * t) d with hk2 | hk2
      · have e1 : skn s t d = s * t := by unfold skn; omega
        rw [e1] at HS
        clear e1
        obtain ⟨p3, p4⟩ := mul_bd (A := 100) (B := 20) (by omega : 0 ≤ m) hm2 p1 (by omega : s * t ≤ 20)
        go_wp2
        go_roundw
        case rel => exact ⟨k + 1, by omega, by go_num, by rw [HT.out, HS.out], by (repeat (first | exact Bel.refl _ | assumption | refine Bel.drew ?_ | refine Bel.drewN ?_ _ | refine Bel.alloc ?_ _ | refine Bel.setCell ?_ (by first | omega | (simp; done) | (simp; omega) | (simp at *; omega)) _ | refine Bel.trans ?_ (by assumption)))⟩
        case measure => simp [intOf]; omega
      · have e1 : skn s t d = d := by unfold skn; omega
        rw [e1] at HS
        clear e1
        obtain ⟨p3, p4⟩ := mul_bd (A := 100) (B := 20) (by omega : 0 ≤ m) hm2 (by omega : 0 ≤ d) d2
        go_wp2
        go_roundw
        case rel => exact ⟨k + 1, by omega, by go_num, by rw [HT.out, HS.out], by (repeat (first | exact Bel.refl _ | assumption | refine Bel.drew ?_ | refine Bel.drewN ?_ _ | refine Bel.alloc ?_ _ | refine Bel.setCell ?_ (by first | omega | (simp; done) | (simp; omega) | (simp at *; omega)) _ | refine Bel.trans ?_ (by assumption)))⟩
        case measure => simp [intOf]; omega
    · obtain rfl : k = n := by omega
      have ht : gs.take k = gs := List.take_of_length_le (by rw [Hn.out]; omega)
      rw [ht]
      clear ht
      go_wp2
      go_ret
      exact ⟨rfl, hb⟩

set_option maxHeartbeats 400000 in
theorem wTime_ok (A : Option Addr) (n c : Nat) (gs : List (Int × Int)) (d nu de : Int) (w : World) (hR : Prs w A gs) (hn : gs.length = n) (he : errV gs = 0) (g1 : within d 1 20 = true) (g2 : within de 1 100 = true) (g3 : within nu 0 de = true) :
    Calls Try.prog 71 #[.slice A n c, .int .i64 d, .int .i64 nu, .int .i64 de] w (TimeOk w gs d nu de) := by
  obtain ⟨d1, d2⟩ := within_iff.1 g1
  obtain ⟨q1, q2⟩ := within_iff.1 g2
  obtain ⟨n1, n2⟩ := within_iff.1 g3
  have hm := fit_of gs he
  have h6 := (errV_zero he).1
  rw [hn] at h6
  have hfull := sinks_full (gs := gs) (d := d) (nu := nu) (de := de) hm d1 d2 n2
  have HFull := Lib.hid hfull; clear hfull
  obtain ⟨s1, s2⟩ := sumM_bd hm
  rw [hn] at s1 s2
  have s3 : 0 ≤ sumM gs ∧ sumM gs ≤ 600 := by omega
  clear s1 s2
  obtain ⟨p1, p2⟩ := mul_bd (A := 600) (B := 20) s3.1 s3.2 (by omega : 0 ≤ d) d2
  obtain ⟨p3, p4⟩ := mul_bd (A := 12000) (B := 100) p1 (by omega) n1 (by omega : nu ≤ 100)
  have hbd := fun t ht => sunkD_bd (t := t) hm ht d1 d2
  rw [hn] at hbd
  have HBd := Lib.hid hbd; clear hbd
  have Hn := Lib.hid hn; clear hn
  have HE := Lib.hid he; clear he
  go_enter Try.func71, Try.ntmps71
  go_wp2_with fail
  refine (validate_any A n c gs _ hR Hn.out (by unfold maxLen; omega)).mono ?_
  rintro e w1 ⟨rfl, hb1⟩
  rw [HE.out]
  go_wp2_with (go_at_call 57; refine (isDepth_any _ _).mono ?_; rintro e w' ⟨rfl, rfl⟩)
  go_loopw [11] (fun i wr => ∃ k : Nat, k ≤ 100 ∧ i = .int .i64 k ∧ Bel w wr ∧ ∀ j, j < k → ¬ Sinks gs d nu de j) (fun i _ => 100 - (intOf i).toNat)
  case atStart => exact ⟨0, by omega, rfl, hb1, fun j hj => by omega⟩
  case round =>
    obtain ⟨k, hk, rfl, hb, hj⟩ := hrel
    have HJ := Lib.hid hj; clear hj
    have hkc : (0 : Int) ≤ (k : Int) ∧ (k : Int) ≤ 100 := by omega
    obtain ⟨b1, b2⟩ := HBd.out k hkc.1
    have b3 : sunkD gs k d ≤ 12000 := by omega
    obtain ⟨b4, b5⟩ := mul_bd (A := 12000) (B := 100) b1 b3 (by omega : 0 ≤ de) q2
    by_cases hs : Sinks gs d nu de k
    · have hlt : ¬ sunkD gs k d * de < sumM gs * d * nu := by
        unfold Sinks at hs
        rw [Int.mul_assoc, Int.mul_comm nu] at hs
        omega
      have HS := Lib.hid hs; clear hs
      go_wp2_with fail
      refine (sunk_any A n c gs k d _ (hR.bel hb) Hn.out (by omega) hm hkc.1 hkc.2 d1 d2).mono ?_
      rintro e w2 ⟨rfl, hb2⟩
      go_wp2_with fail
      refine (massOf_any A n c gs _ (hR.bel (by (repeat (first | exact Bel.refl _ | assumption | refine Bel.drew ?_ | refine Bel.drewN ?_ _ | refine Bel.alloc ?_ _ | refine Bel.setCell ?_ (by first | omega | (simp; done) | (simp; omega) | (simp at *; omega)) _ | refine Bel.trans ?_ (by assumption))))) Hn.out (by omega) hm).mono ?_
      rintro e w3 ⟨rfl, hb3⟩
      go_wp2
      go_ret2
      exact ⟨k, ⟨hk, HS.out, HJ.out⟩, rfl, by (repeat (first | exact Bel.refl _ | assumption | refine Bel.drew ?_ | refine Bel.drewN ?_ _ | refine Bel.alloc ?_ _ | refine Bel.setCell ?_ (by first | omega | (simp; done) | (simp; omega) | (simp at *; omega)) _ | refine Bel.trans ?_ (by assumption)))⟩
    · have hlt : sunkD gs k d * de < sumM gs * d * nu := by
        unfold Sinks at hs
        rw [Int.mul_assoc, Int.mul_comm nu] at hs
        omega
      have hk100 : k ≠ 100 := by
        rintro rfl
        exact hs HFull.out
      have HS := Lib.hid hs; clear hs
      go_wp2_with fail
      refine (sunk_any A n c gs k d _ (hR.bel hb) Hn.out (by omega) hm hkc.1 hkc.2 d1 d2).mono ?_
      rintro e w2 ⟨rfl, hb2⟩
      go_wp2_with fail
      refine (massOf_any A n c gs _ (hR.bel (by (repeat (first | exact Bel.refl _ | assumption | refine Bel.drew ?_ | refine Bel.drewN ?_ _ | refine Bel.alloc ?_ _ | refine Bel.setCell ?_ (by first | omega | (simp; done) | (simp; omega) | (simp at *; omega)) _ | refine Bel.trans ?_ (by assumption))))) Hn.out (by omega) hm).mono ?_
      rintro e w3 ⟨rfl, hb3⟩
      go_wp2
      go_roundw
      case rel =>
        refine ⟨k + 1, by omega, by go_num, by (repeat (first | exact Bel.refl _ | assumption | refine Bel.drew ?_ | refine Bel.drewN ?_ _ | refine Bel.alloc ?_ _ | refine Bel.setCell ?_ (by first | omega | (simp; done) | (simp; omega) | (simp at *; omega)) _ | refine Bel.trans ?_ (by assumption))), fun j hj => ?_⟩
        by_cases hjk : j = k
        · subst hjk; exact HS.out
        · exact HJ.out j (by omega)
      case measure => simp [intOf]; omega

set_option maxHeartbeats 400000 in
theorem wTime_err (A : Option Addr) (n c : Nat) (gs : List (Int × Int)) (d nu de : Int) (w : World) (hR : Prs w A gs) (hn : gs.length = n) (hmax : n ≤ maxLen) (x : Int)
    (hx : (errV gs = x ∧ x ≠ 0) ∨ (errV gs = 0 ∧ (within d 1 20 && within de 1 100 && within nu 0 de) = false ∧ x = 1)) :
    Calls Try.prog 71 #[.slice A n c, .int .i64 d, .int .i64 nu, .int .i64 de] w fun e w' => e = .returned (.tuple #[.int .i64 0, .int .i64 x]) ∧ Bel w w' := by
  rcases hx with ⟨hx, h0⟩ | ⟨hx, h0, rfl⟩
  · have HX := Lib.hid hx; clear hx
    have hne : (x != 0) = true := by simpa using h0
    clear h0
    go_enter Try.func71, Try.ntmps71
    go_wp2_with fail
    refine (validate_any A n c gs _ hR hn hmax).mono ?_
    rintro e w1 ⟨rfl, hb1⟩
    rw [HX.out]
    go_wp2
    go_ret2
    exact ⟨rfl, hb1⟩
  · have HX := Lib.hid hx; clear hx
    cases g1 : within d 1 20
    · clear h0
      go_enter Try.func71, Try.ntmps71
      go_wp2_with fail
      refine (validate_any A n c gs _ hR hn hmax).mono ?_
      rintro e w1 ⟨rfl, hb1⟩
      rw [HX.out]
      go_wp2_with (go_at_call 57; refine (isDepth_any _ _).mono ?_; rintro e w' ⟨rfl, rfl⟩)
      go_ret2
      exact ⟨rfl, hb1⟩
    · have h1 : ¬ ((1 ≤ de ∧ de ≤ 100) ∧ 0 ≤ nu ∧ nu ≤ de) := by
        rintro ⟨a, b⟩
        rw [g1, within_iff.2 a, within_iff.2 b] at h0
        simp at h0
      clear h0
      by_cases k1 : de < 1
      · go_enter Try.func71, Try.ntmps71
        go_wp2_with fail
        refine (validate_any A n c gs _ hR hn hmax).mono ?_
        rintro e w1 ⟨rfl, hb1⟩
        rw [HX.out]
        go_wp2_with (go_at_call 57; refine (isDepth_any _ _).mono ?_; rintro e w' ⟨rfl, rfl⟩)
        go_ret2
        exact ⟨rfl, hb1⟩
      by_cases k2 : 100 < de
      · clear h1
        go_enter Try.func71, Try.ntmps71
        go_wp2_with fail
        refine (validate_any A n c gs _ hR hn hmax).mono ?_
        rintro e w1 ⟨rfl, hb1⟩
        rw [HX.out]
        go_wp2_with (go_at_call 57; refine (isDepth_any _ _).mono ?_; rintro e w' ⟨rfl, rfl⟩)
        go_ret2
        exact ⟨rfl, hb1⟩
      by_cases k3 : nu < 0
      · clear h1
        go_enter Try.func71, Try.ntmps71
        go_wp2_with fail
        refine (validate_any A n c gs _ hR hn hmax).mono ?_
        rintro e w1 ⟨rfl, hb1⟩
        rw [HX.out]
        go_wp2_with (go_at_call 57; refine (isDepth_any _ _).mono ?_; rintro e w' ⟨rfl, rfl⟩)
        go_ret2
        exact ⟨rfl, hb1⟩
      · have k4 : de < nu := by omega
        clear h1
        go_enter Try.func71, Try.ntmps71
        go_wp2_with fail
        refine (validate_any A n c gs _ hR hn hmax).mono ?_
        rintro e w1 ⟨rfl, hb1⟩
        rw [HX.out]
        go_wp2_with (go_at_call 57; refine (isDepth_any _ _).mono ?_; rintro e w' ⟨rfl, rfl⟩)
        go_ret2
        exact ⟨rfl, hb1⟩
end Go.Proofs.Ytnlcndhbamcpdaa
