/- Pairs of the document. -/
import Derived.Test.YthjjpmcefiddmaaR
import Derived.Test.YthjjpmcefiddmaaK
import Derived.Laws.BitsLemmas
import Derived.Laws.Shifts
namespace Go.Proofs.Ythjjpmcefiddmaa
open Go.RowKit

attribute [local go_sem] Oper.semAt_some

theorem i64_low32 (n : Int) : bits .and .i64 n 4294967295 = n % 4294967296 := by
  have h127 : (BitVec.ofInt 64 4294967295).toNat = 2 ^ 32 - 1 := by decide
  have key : (BitVec.ofInt 64 n &&& BitVec.ofInt 64 4294967295).toNat = (n % ((2 ^ 64 : Nat) : Int)).toNat % 2 ^ 32 := by
    rw [BitVec.toNat_and, BitVec.toNat_ofInt, h127, Nat.and_two_pow_sub_one_eq_mod]
  show IntKind.i64.wrap ((BitVec.ofInt 64 n &&& BitVec.ofInt 64 4294967295).toNat : Nat) = n % 4294967296
  rw [key, IntKind.wrap_i64]
  omega
/-- A number cut into halves. -/
theorem cut_ {a : Int} (h : InI a) : ∃ p q : Int, bits .and .i64 a 4294967295 = p ∧ a / 4294967296 = q ∧ a = 4294967296 * q + p ∧ 0 ≤ p ∧ p ≤ 4294967295 ∧ -2147483648 ≤ q ∧ q ≤ 2147483647 := by
  unfold InI at h
  exact ⟨_, _, i64_low32 a, rfl, by omega, by omega, by omega, by omega, by omega⟩
set_option maxRecDepth 100000 in
set_option maxHeartbeats 1000000 in
theorem sameSum_any (a b c d : Int) (w : World) (ha : InI a) (hb : InI b) (hc : InI c) (hd : InI d) :
    Calls Try.prog 100 #[.int .i64 a, .int .i64 b, .int .i64 c, .int .i64 d] w fun e w' => e = .returned (.bool (decide (a + b = c + d))) ∧ w = w' := by
  obtain ⟨p1, q1, ea1, ea2, ea, a1, a2, a3, a4⟩ := cut_ ha
  obtain ⟨p2, q2, eb1, eb2, eb, b1, b2, b3, b4⟩ := cut_ hb
  obtain ⟨p3, q3, ec1, ec2, ec, c1, c2, c3, c4⟩ := cut_ hc
  obtain ⟨p4, q4, ed1, ed2, ed, d1, d2, d3, d4⟩ := cut_ hd
  have hiff : a + b = c + d ↔ (q1 + q2 - q3 - q4) * 4294967296 = -(p1 + p2 - p3 - p4) := by omega
  obtain ⟨r, hr⟩ : ∃ r, r = a + b := ⟨_, rfl⟩
  obtain ⟨s, hs⟩ : ∃ s, s = c + d := ⟨_, rfl⟩
  rw [← hr, ← hs] at hiff ⊢
  clear ha hb hc hd ea eb ec ed hr hs
  by_cases h : r = s
  · have h2 := hiff.1 h
    have HD := Lib.hid (decide_eq_true h)
    rw [HD.out]
    have h3 : q1 + q2 - q3 - q4 > -8 := by omega
    have h4 : q1 + q2 - q3 - q4 < 8 := by omega
    have h5 : IntKind.i64.wrap ((q1 + q2 - q3 - q4) * 4294967296) = -(p1 + p2 - p3 - p4) := by rw [h2]; exact IntWalk.i64_in _ (by omega)
    clear hiff h h2
    go_enter Try.func100, Try.ntmps100
    go_wp2
    go_ret
    exact ⟨rfl, rfl⟩
  · have HD := Lib.hid (decide_eq_false h)
    rw [HD.out]
    by_cases h3 : q1 + q2 - q3 - q4 > -8
    · by_cases h4 : q1 + q2 - q3 - q4 < 8
      · have h5 : ¬ (q1 + q2 - q3 - q4) * 4294967296 = -(p1 + p2 - p3 - p4) := fun e => h (hiff.2 e)
        clear hiff h
        go_enter Try.func100, Try.ntmps100
        go_wp2
        go_ret
        exact ⟨rfl, rfl⟩
      · clear hiff h
        by_cases h5 : wrap64 ((q1 + q2 - q3 - q4) * 4294967296) = -(p1 + p2 - p3 - p4)
        · go_enter Try.func100, Try.ntmps100
          go_wp2
          go_ret
          exact ⟨rfl, rfl⟩
        · go_enter Try.func100, Try.ntmps100
          go_wp2
          go_ret
          exact ⟨rfl, rfl⟩
    · clear hiff h
      by_cases h5 : wrap64 ((q1 + q2 - q3 - q4) * 4294967296) = -(p1 + p2 - p3 - p4)
      · go_enter Try.func100, Try.ntmps100
        go_wp2
        go_ret
        exact ⟨rfl, rfl⟩
      · go_enter Try.func100, Try.ntmps100
        go_wp2
        go_ret
        exact ⟨rfl, rfl⟩
set_option maxRecDepth 100000 in
set_option maxHeartbeats 2000000 in
theorem rpairs_ok (h : Nat) (A : Option Addr) (c : Nat) (l : List Int) (w : World) (h1 : 1 ≤ h) (h16 : h ≤ 16) (hR : Ints w A l) (hl : l.length = 2 * h) (hin : ∀ v ∈ l, InI v) :
    Calls Try.prog 76 #[.slice A (2 * h) c] w fun e w' => e = .returned (.tuple #[.bool (pairsB h l), .int .i64 0]) ∧ Bel w w' := by
  have HE := Lib.hid (eD_half h1 h16)
  obtain ⟨b, o, rfl, hS⟩ := Seg.of_ints hR (by omega)
  rw [hl] at hS
  have HIN : Hid (∀ q, q < 2 * h → InI (l.getD q 0)) := fun q hq => by
    rw [List.getD_eq_getElem?_getD, List.getElem?_eq_getElem (by omega)]
    exact hin _ (List.getElem_mem _)
  obtain ⟨f, hf⟩ : ∃ f : Nat → Int, f = fun q => l.getD q 0 := ⟨_, rfl⟩
  have HB : Hid (pairsB h l = decide (∀ p, p < 2 * h → f p + f (2 * h - 1 - p) = f 0 + f (2 * h - 1))) := by rw [hf]; exact rfl
  have HINF : Hid (∀ q, q < 2 * h → InI (f q)) := by rw [hf]; exact HIN.out
  rw [← hf] at hS
  rw [HB.out]
  obtain ⟨z, hz⟩ : ∃ z : Nat, z = 2 * h - 1 := ⟨_, rfl⟩
  have hzi : 2 * (h : Int) - 1 = (z : Int) := by omega
  have hz2 : z + 1 = 2 * h := by omega
  rw [← hz]
  have HZ0 := Lib.hid hz
  clear hR hl hin HIN hf hz
  go_enter Try.func76, Try.ntmps76
  go_wp2_with fail
  refine (rvalidate_any _ (2 * h) c _).mono ?_
  rintro e w1 ⟨rfl, hw⟩
  subst hw
  rw [HE.out]
  go_wp2
  go_loopw [6] (fun i wr => ∃ k : Nat, k ≤ 2 * h ∧ i = .int .i64 k ∧ Bel w wr ∧ ∀ j, j < k → f j + f (z - j) = f 0 + f z) (fun i _ => 2 * h - (intOf i).toNat)
  case atStart => exact ⟨0, Nat.zero_le _, rfl, by (repeat (first | exact Bel.refl _ | assumption | refine Bel.drew ?_ | refine Bel.drewN ?_ _ | refine Bel.alloc ?_ _ | refine Bel.setCell ?_ (by first | omega | (simp; done) | (simp; omega) | (simp at *; omega)) _ | refine Bel.trans ?_ (by assumption))), fun j hj => by omega⟩
  case round =>
    obtain ⟨k, hk, rfl, hb, hzz⟩ := hrel
    have HZ := Lib.hid hzz
    clear hzz
    by_cases hlt : k < 2 * h
    · have hki : (k : Int) < 2 * (h : Int) := by omega
      have hm5 : (0 : Int) ≤ (z : Int) - (k : Int) := by omega
      have hm6 : (z : Int) - (k : Int) < 2 * (h : Int) := by omega
      have hm7 : (k : Int) ≤ (z : Int) := by omega
      have hm8 : k ≤ z := by omega
      have hmw : IntKind.i64.wrap ((z : Int) - (k : Int)) = (z : Int) - (k : Int) := IntWalk.i64_in _ (by omega)
      have hm2 : z - k < 2 * h := by omega
      have hz3 : (z : Int) < 2 * (h : Int) := by omega
      have hz4 : z < 2 * h := by omega
      have hz5 : (0 : Int) ≤ (z : Int) := by omega
      have h03 : (0 : Int) < 2 * (h : Int) := by omega
      have h04 : 0 < 2 * h := by omega
      have hSr := hS.bel hb
      have c1 := hSr.cells k hlt
      have HC : Hid (∀ w', Bel wr w' → w'.cell? ⟨b, o + (z - k), none⟩ = some (.int .i64 (f (z - k))) ∧ w'.cell? ⟨b, o, none⟩ = some (.int .i64 (f 0)) ∧ w'.cell? ⟨b, o + z, none⟩ = some (.int .i64 (f z))) := fun w' hb' => by
        have hS' := hSr.bel hb'
        refine ⟨hS'.cells (z - k) (by omega), ?_, hS'.cells z (by omega)⟩
        have := hS'.cells 0 (by omega)
        rwa [Nat.add_zero] at this
      have HX := Lib.hid (HINF.out k hlt); have HM := Lib.hid (HINF.out (z - k) (by omega)); have H0 := Lib.hid (HINF.out 0 (by omega)); have HZZ := Lib.hid (HINF.out z (by omega))
      have n1 := hSr.lt
      obtain ⟨x, hx⟩ : ∃ x, x = f k := ⟨_, rfl⟩
      obtain ⟨y, hy⟩ : ∃ y, y = f (z - k) := ⟨_, rfl⟩
      obtain ⟨u, hu⟩ : ∃ u, u = f 0 := ⟨_, rfl⟩
      obtain ⟨v, hv⟩ : ∃ v, v = f z := ⟨_, rfl⟩
      rw [← hx] at c1 HX
      rw [← hy] at HM HC
      rw [← hu] at H0 HC
      rw [← hv] at HZZ HC
      have HNXT : Hid (x + y = u + v → ∀ j, j < k + 1 → f j + f (z - j) = f 0 + f z) := fun e j hj => by
        rcases (by omega : j < k ∨ j = k) with h | rfl
        · exact HZ.out j h
        · rw [← hx, ← hy, ← hu, ← hv, e]
      have HBAD : Hid (¬ x + y = u + v → decide (∀ p, p < 2 * h → f p + f (z - p) = f 0 + f z) = false) := fun e => decide_eq_false fun e2 => e (by
        have := e2 k hlt
        rwa [← hx, ← hy, ← hu, ← hv] at this)
      have k1 := HC.out wr (Bel.refl _)
      clear hx hy hu hv
      by_cases hxy : x + y = u + v
      · have HN := Lib.hid (HNXT.out hxy)
        have HSS : Hid (∀ w, Calls Try.prog 100 #[.int .i64 x, .int .i64 y, .int .i64 u, .int .i64 v] w fun e w' => e = .returned (.bool true) ∧ w = w') := fun w => by
          have := sameSum_any x y u v w HX.out HM.out H0.out HZZ.out
          rw [decide_eq_true hxy] at this
          exact this
        clear hxy
        obtain ⟨k2, k3, k4⟩ := k1
        go_wp2
        go_quiet ((go_at_call 100; exact Calls.quiet_of_same ((HSS.out _).mono fun _ _ h => ⟨h.1, h.2.symm⟩)))
        go_wp2
        go_roundw
        case rel => exact ⟨k + 1, by omega, by go_num, by (repeat (first | exact Bel.refl _ | assumption | refine Bel.drew ?_ | refine Bel.drewN ?_ _ | refine Bel.alloc ?_ _ | refine Bel.setCell ?_ (by first | omega | (simp; done) | (simp; omega) | (simp at *; omega)) _ | refine Bel.trans ?_ (by assumption))), HN.out⟩
        case measure => simp [intOf]; omega
      · have HN := Lib.hid (HBAD.out hxy)
        have HSS : Hid (∀ w, Calls Try.prog 100 #[.int .i64 x, .int .i64 y, .int .i64 u, .int .i64 v] w fun e w' => e = .returned (.bool false) ∧ w = w') := fun w => by
          have := sameSum_any x y u v w HX.out HM.out H0.out HZZ.out
          rw [decide_eq_false hxy] at this
          exact this
        clear hxy
        obtain ⟨k2, k3, k4⟩ := k1
        go_wp2
        go_quiet ((go_at_call 100; exact Calls.quiet_of_same ((HSS.out _).mono fun _ _ h => ⟨h.1, h.2.symm⟩)))
        go_wp2
        exact bodyPost_ret (v := .tuple #[.bool false, .int .i64 0]) (by simp [results, Try.results76, go_sem]) rfl ⟨by rw [HN.out], by (repeat (first | exact Bel.refl _ | assumption | refine Bel.drew ?_ | refine Bel.drewN ?_ _ | refine Bel.alloc ?_ _ | refine Bel.setCell ?_ (by first | omega | (simp; done) | (simp; omega) | (simp at *; omega)) _ | refine Bel.trans ?_ (by assumption)))⟩
    · obtain rfl : k = 2 * h := by omega
      have hkz : (z : Int) < 2 * (h : Int) := by omega
      have HF := Lib.hid (show decide (∀ p, p < 2 * h → f p + f (z - p) = f 0 + f z) = true from decide_eq_true HZ.out)
      go_wp2
      exact bodyPost_ret (v := .tuple #[.bool true, .int .i64 0]) (by simp [results, Try.results76, go_sem]) rfl ⟨by rw [HF.out], hb⟩
set_option maxRecDepth 100000 in
set_option maxHeartbeats 1000000 in
theorem rpairs_err (A : Option Addr) (n c : Nat) (w : World) (hE : eD n ≠ 0) : Calls Try.prog 76 #[.slice A n c] w fun e w' => e = .returned (.tuple #[.bool false, .int .i64 1]) ∧ Bel w w' := by
  have HE := Lib.hid (eD_one hE)
  clear hE
  go_enter Try.func76, Try.ntmps76
  go_wp2_with fail
  refine (rvalidate_any _ n c _).mono ?_
  rintro e w1 ⟨rfl, rfl⟩
  rw [HE.out]
  go_wp2
  exact bodyPost_ret (v := .tuple #[.bool false, .int .i64 1]) (by simp [results, Try.results76, go_sem]) rfl ⟨rfl, Bel.refl _⟩
end Go.Proofs.Ythjjpmcefiddmaa
