/- The document's Wash. -/
import Derived.Test.YtnlcndhbamcpdaaY1
namespace Go.Proofs.Ytnlcndhbamcpdaa
open Go.RowKit

theorem pow_bd {x : Int} (h0 : 0 ≤ x) (h1 : x ≤ 20) (j : Nat) (hj : j ≤ 4) : 0 ≤ x ^ j ∧ x ^ j ≤ 160000 ∧ (j ≤ 3 → x ^ j ≤ 8000) := by
  have p2 := mul_bd h0 h1 h0 h1
  have p3 := mul_bd p2.1 p2.2 h0 h1
  have p4 := mul_bd p3.1 p3.2 h0 h1
  have e2 : x ^ 2 = x * x := by rw [Int.pow_succ, Int.pow_succ, Int.pow_zero, Int.one_mul]
  have e3 : x ^ 3 = x * x * x := by rw [Int.pow_succ, e2]
  have e4 : x ^ 4 = x * x * x * x := by rw [Int.pow_succ, e3]
  match j, hj with
  | 0, _ => simp
  | 1, _ => rw [Int.pow_succ, Int.pow_zero, Int.one_mul]; omega
  | 2, _ => rw [e2]; omega
  | 3, _ => rw [e3]; omega
  | 4, _ => rw [e4]; omega
theorem stayN_eq {gs : List (Int × Int)} {t d : Int} (h : Fit gs) (h2 : 0 ≤ t) (h3 : 1 ≤ d) (j : Nat) : stayN t d j (pot gs) = potF (fun g => g.2 * (d - skn g.1 t d) ^ j) (d ^ j) gs := by
  induction j with
  | zero =>
    show pot gs = _
    rw [potF_pot (fun g hg => by have := h g hg; omega)]
    simp
  | succ j ih =>
    show (stayN t d j (pot gs)).map (stayP t d) = _
    rw [ih, stay_potF (fun g hg => by
      have := h g hg
      obtain ⟨k1, k2⟩ := skn_bd (s := g.1) (t := t) (d := d) (by omega) h2 h3
      exact ⟨Int.mul_nonneg (by omega) (Int.pow_nonneg (by omega)), by omega⟩) (Int.pow_pos (by omega)) h2 h3]
    simp only [Int.pow_succ, Int.mul_assoc]
theorem washL_eq {gs : List (Int × Int)} {t d : Int} (h : Fit gs) (h2 : 0 ≤ t) (h3 : 1 ≤ d) (j : Nat) : restL (stayN t d j (pot gs)) = gs.map fun g => nd (g.2 * (d - skn g.1 t d) ^ j) (d ^ j) := by
  rw [stayN_eq h h2 h3, rest_potF]

/-- One slice of fractions, and OK. -/
def OnePrs (w : World) (xs : List (Int × Int)) (e : Ending) (w' : World) : Prop :=
  ∃ A n c, e = .returned (.tuple #[.slice A n c, .int .i64 0]) ∧ n = xs.length ∧ Bel w w' ∧ Prs w' A xs

set_option maxHeartbeats 1000000 in
theorem rWash_ok (A : Option Addr) (n c : Nat) (gs : List (Int × Int)) (t d : Int) (T : Nat) (w : World) (hR : Prs w A gs) (hn : gs.length = n) (he : errV gs = 0) (g1 : within t 0 100 = true) (g2 : within d 1 20 = true) (T1 : 1 ≤ T) (T2 : T ≤ 4) :
    Calls Try.prog 66 #[.slice A n c, .int .i64 t, .int .i64 d, .int .i64 T] w (OnePrs w (restL (stayN t d T (pot gs)))) := by
  obtain ⟨i0, hi, hz0, hz1, hz2⟩ := info_parts info2R
  obtain ⟨t1, t2⟩ := within_iff.1 g1
  obtain ⟨d1, d2⟩ := within_iff.1 g2
  have g3 : within (T : Int) 1 4 = true := within_iff.2 ⟨by omega, by omega⟩
  have hm := fit_of gs he
  have h6 := (errV_zero he).1
  rw [hn] at h6
  rw [washL_eq hm t1 d1]
  have Hn := Lib.hid hn; clear hn
  have HE := Lib.hid he; clear he
  go_enter Try.func66, Try.ntmps66
  go_wp2_with fail
  refine (rvalidate_any A n c gs _ hR Hn.out (by unfold maxLen; omega)).mono ?_
  rintro e w1 ⟨rfl, hb1⟩
  rw [HE.out]
  go_wp2_with (first | (go_at_call 52; refine (settling_any _ _ _).mono ?_; rintro e w' ⟨rfl, rfl⟩) | (go_at_call 53; refine (within_any _ _ _ _).mono ?_; rintro e w' ⟨rfl, rfl⟩))
  go_loopw [11, 12, 13, 14, 15] (fun u i _ _ _ wr => ∃ k : Nat, k ≤ n ∧ i = .int .i64 k ∧ Bel w1 wr ∧ Own2 29 w1.heap.size wr u ((gs.take k).map fun g => nd (g.2 * (d - skn g.1 t d) ^ T) (d ^ T))) (fun _ i _ _ _ _ => n - (intOf i).toNat)
  case atStart => exact ⟨0, Nat.zero_le _, rfl, Bel.refl _, Own2.nil _ _ _⟩
  case round =>
    obtain ⟨k, hk, rfl, hb, ho⟩ := hrel
    by_cases hlt : k < n
    · obtain ⟨b, o, s, m, rfl, hbl, hg, hc1, hc2⟩ := (hR.bel (hb1.trans hb)).at_ (k := k) (by rw [Hn.out]; exact hlt)
      obtain ⟨⟨hm3, hm4⟩, hm1, hm2⟩ := hm (s, m) (List.mem_of_getElem? hg)
      have HT := Lib.hid (take_at hg)
      have hlk : (gs.take k).length ≤ 6 := by have := List.length_take_le k gs; omega
      clear hg hm
      simp only at hm1 hm2 hm3 hm4
      obtain ⟨y1, y2⟩ := mul_bd (A := 20) (B := 100) (by omega : 0 ≤ s) hm4 t1 t2
      obtain ⟨y3, y4⟩ := skn_bd (s := s) (t := t) (d := d) (by omega) t1 d1
      have hpw := fun j hj => pow_bd (x := d - skn s t d) (by omega) (by omega) j hj
      have HPw := Lib.hid hpw; clear hpw
      have hpd := fun j hj => pow_bd (x := d) (by omega) d2 j hj
      have HPd := Lib.hid hpd; clear hpd
      generalize hX : (gs.take k).map (fun g => nd (g.2 * (d - skn g.1 t d) ^ T) (d ^ T)) = X at ho
      have hXl : X.length ≤ 6 := by rw [← hX, List.length_map]; exact hlk
      have HX := Lib.hid hX; clear hX
      have hX1 : X.length + 1 ≤ maxLen := by unfold maxLen; omega
      have hX2 : (X.length + 1) * 16 ≤ 140737488355328 := by omega
      have HX1 := Lib.hid hX1; have HX2 := Lib.hid hX2
      clear hX1 hX2
      obtain ⟨wo, hwo⟩ : ∃ wo : World, wo = wr := ⟨_, rfl⟩
      subst hwo
      go_wp2
      go_loop [13, 14, 15] (fun a e i => ∃ j : Nat, j ≤ T ∧ i = .int .i64 j ∧ a = .int .i64 (m * (d - skn s t d) ^ j) ∧ e = .int .i64 (d ^ j)) (fun _ _ i => T - (intOf i).toNat)
      case atStart => exact ⟨0, Nat.zero_le _, rfl, by simp, by simp⟩
      case round =>
        obtain ⟨j, hj, rfl, rfl, rfl⟩ := hrel
        obtain ⟨a1, a2, a3⟩ := HPw.out j (by omega)
        obtain ⟨a4, a5, a6⟩ := HPd.out j (by omega)
        by_cases hjt : j < T
        · have a7 := a3 (by omega)
          have a8 := a6 (by omega)
          clear a2 a3 a5 a6
          obtain ⟨c1, c2⟩ := mul_bd (A := 100) (B := 8000) (by omega : 0 ≤ m) hm2 a1 a7
          obtain ⟨c3, c4⟩ := mul_bd (A := 800000) (B := 20) (b := d - skn s t d) c1 (by omega) (by omega) (by omega)
          obtain ⟨c5, c6⟩ := mul_bd (A := 8000) (B := 20) a4 a8 (by omega : 0 ≤ d) d2
          have E1 := Lib.hid (Int.pow_succ (d - skn s t d) j)
          have E2 := Lib.hid (Int.pow_succ d j)
          generalize (d - skn s t d) ^ j = P at *
          generalize d ^ j = D at *
          go_wp2_with (go_at_call 55; refine (sinks_any _ _ _ _ (by omega) (by omega)).mono ?_; rintro e w' ⟨rfl, rfl⟩)
          go_round
          case rel => exact ⟨j + 1, by omega, by go_num, by rw [E1.out, Int.mul_assoc], by rw [E2.out]⟩
          case measure => simp [intOf]; omega
        · obtain rfl : j = T := by omega
          have a7 : 0 < d ^ j := Int.pow_pos (by omega)
          obtain ⟨c1, c2⟩ := mul_bd (A := 100) (B := 160000) (by omega : 0 ≤ m) hm2 a1 a2
          clear a3 a6
          go_wp2_with fail
          refine (ratio_any _ _ _ c1 a7 (by omega) (by omega)).mono ?_
          rintro e w2 ⟨rfl, hb2⟩
          have ho2 := ho.bel hb2
          have hw2 := hb.trans hb2
          have hsz2 := hw2.size
          go_wp2_with (at_builtin; refine wpList_append_own_at _ rfl (.tmp 61) (.tmp 65) 69 rfl w1.heap.size 29 i0 _ 2 16 Try.underlying69 hi hz0 hz1 hz2 rfl (by decide) _ X.length (cel2 X) rfl (ho2.alloc _) ⟨w2.heap.size, 0, none⟩ 1 1 [.int .i64 (num (m * (d - skn s t d) ^ j) (d ^ j)), .int .i64 (den (m * (d - skn s t d) ^ j) (d ^ j))] rfl rfl (new2 _ _ _ _) (one2 _ _) HX1.out HX2.out (by simp; omega) ?_; intro v1 w3 hown3 hgr3 _ hat3; have hb3 : Bel w1 w3 := Bel.own (hw2.alloc _) (ho2.alloc _) hgr3 (Nat.le_refl _); have P1 := Own2.snoc hown3; clear hown3 hgr3 hat3 ho ho2)
          go_roundw
          case rel => exact ⟨k + 1, by omega, by go_num, hb3, by rw [HT.out, List.map_append, HX.out]; exact P1⟩
          case measure => simp [intOf]; omega
    · obtain rfl : k = n := by omega
      have ht : gs.take k = gs := List.take_of_length_le (by rw [Hn.out]; omega)
      rw [ht] at ho
      clear ht
      obtain ⟨A1, n1, c1, rfl, hn1⟩ := ho.form
      have HN1 := Lib.hid hn1
      clear hn1
      go_wp2
      go_ret2
      exact ⟨_, _, _, rfl, HN1.out, hb1.trans hb, ho.prs⟩

set_option maxHeartbeats 400000 in
theorem rWash_err (A : Option Addr) (n c : Nat) (gs : List (Int × Int)) (t d m : Int) (w : World) (hR : Prs w A gs) (hn : gs.length = n) (hmax : n ≤ maxLen) (x : Int)
    (hx : (errV gs = x ∧ x ≠ 0) ∨ (errV gs = 0 ∧ (within t 0 100 && within d 1 20 && within m 1 4) = false ∧ x = 1)) :
    Calls Try.prog 66 #[.slice A n c, .int .i64 t, .int .i64 d, .int .i64 m] w fun e w' => e = .returned (.tuple #[.slice none 0 0, .int .i64 x]) ∧ Bel w w' := by
  rcases hx with ⟨hx, h0⟩ | ⟨hx, h0, rfl⟩
  · have HX := Lib.hid hx; clear hx
    have hne : (x != 0) = true := by simpa using h0
    clear h0
    go_enter Try.func66, Try.ntmps66
    go_wp2_with fail
    refine (rvalidate_any A n c gs _ hR hn hmax).mono ?_
    rintro e w1 ⟨rfl, hb1⟩
    rw [HX.out]
    go_wp2
    go_ret2
    exact ⟨rfl, hb1⟩
  · have HX := Lib.hid hx; clear hx
    cases g1 : within t 0 100 <;> cases g2 : within d 1 20 <;> cases g3 : within m 1 4
    case true.true.true => simp [g1, g2, g3] at h0
    all_goals
      clear h0
      go_enter Try.func66, Try.ntmps66
      go_wp2_with fail
      refine (rvalidate_any A n c gs _ hR hn hmax).mono ?_
      rintro e w1 ⟨rfl, hb1⟩
      rw [HX.out]
      go_wp2_with (first | (go_at_call 52; refine (settling_any _ _ _).mono ?_; rintro e w' ⟨rfl, rfl⟩) | (go_at_call 53; refine (within_any _ _ _ _).mono ?_; rintro e w' ⟨rfl, rfl⟩))
      go_ret2
      exact ⟨rfl, hb1⟩
end Go.Proofs.Ytnlcndhbamcpdaa
