/- feud: valueAt. -/
import Derived.Test.YtcndmfkbfimllaaJ
namespace Go.Proofs.Ytcndmfkbfimllaa
open Go.RowKit Go.Maps

/-- The sum of the terms, each times its power of k, from a power on. -/
def valP (k : Int) : List Int → Int → Int
  | [], _ => 0
  | t :: r, p => t * p + valP k r (p * k)
def valL (k : Int) (ts : List Int) : Int := valP k ts 1
theorem valP_step {k t p : Int} {ts : List Int} {i : Nat} (h : ts[i]? = some t) : valP k (ts.drop i) p = t * p + valP k (ts.drop (i + 1)) (p * k) := by
  rw [drop_at h]; rfl
def pw9 (i : Nat) : Int := 9 ^ i
theorem pw9_succ (i : Nat) : pw9 (i + 1) = 9 * pw9 i := by unfold pw9; rw [Int.pow_succ, Int.mul_comm]
theorem pw9_pos (i : Nat) : 1 ≤ pw9 i := by
  induction i with
  | zero => decide
  | succ i ih => rw [pw9_succ]; omega
theorem pw9_mono {i : Nat} (h : i ≤ 8) : pw9 i ≤ 43046721 := by
  have : i = 0 ∨ i = 1 ∨ i = 2 ∨ i = 3 ∨ i = 4 ∨ i = 5 ∨ i = 6 ∨ i = 7 ∨ i = 8 := by omega
  rcases this with rfl | rfl | rfl | rfl | rfl | rfl | rfl | rfl | rfl <;> decide
theorem pw9_mono7 {i : Nat} (h : i ≤ 7) : pw9 i ≤ 4782969 := by
  have : i = 0 ∨ i = 1 ∨ i = 2 ∨ i = 3 ∨ i = 4 ∨ i = 5 ∨ i = 6 ∨ i = 7 := by omega
  rcases this with rfl | rfl | rfl | rfl | rfl | rfl | rfl | rfl <;> decide
theorem mul_abs {a b A B : Int} (a1 : -A ≤ a) (a2 : a ≤ A) (b1 : -B ≤ b) (b2 : b ≤ B) (hA : 0 ≤ A) (hB : 0 ≤ B) : -(A * B) ≤ a * b ∧ a * b ≤ A * B := by
  have h1 : (a * b).natAbs ≤ A.natAbs * B.natAbs := by
    rw [Int.natAbs_mul]
    exact Nat.mul_le_mul (by omega) (by omega)
  have h2 : (A.natAbs : Int) * (B.natAbs : Int) = A * B := by
    rw [Int.natAbs_of_nonneg hA, Int.natAbs_of_nonneg hB]
  have h3 : ((a * b).natAbs : Int) ≤ A * B := by rw [← h2]; exact_mod_cast h1
  omega
def bigP : Int := 478296900000000000
/-- What the running sum and the running power stay below. -/
theorem run_bd {k t p s : Int} {i : Nat} (hi : i < 8) (k0 : -1 ≤ k) (k9 : k ≤ 9) (t1 : -big ≤ t) (t2 : t ≤ big) (p1 : -pw9 i ≤ p) (p2 : p ≤ pw9 i) (s1 : -((i : Int) * bigP) ≤ s) (s2 : s ≤ (i : Int) * bigP) :
    wrap64 (t * p) = t * p ∧ wrap64 (s + t * p) = s + t * p ∧ wrap64 (p * k) = p * k ∧ -pw9 (i + 1) ≤ p * k ∧ p * k ≤ pw9 (i + 1) ∧ -(((i + 1 : Nat) : Int) * bigP) ≤ s + t * p ∧ s + t * p ≤ ((i + 1 : Nat) : Int) * bigP := by
  have hp := pw9_mono7 (i := i) (by omega)
  have hp0 := pw9_pos i
  obtain ⟨m1, m2⟩ := mul_abs (A := big) (B := 4782969) t1 t2 (show -4782969 ≤ p by omega) (show p ≤ 4782969 by omega) (by decide) (by decide)
  obtain ⟨q1, q2⟩ := mul_abs (A := pw9 i) (B := 9) p1 p2 (show -9 ≤ k by omega) (show k ≤ 9 by omega) (by omega) (by decide)
  have e : big * 4782969 = bigP := by decide
  rw [e] at m1 m2
  have hib : (i : Int) * bigP ≤ 7 * bigP := Int.mul_le_mul_of_nonneg_right (by omega) (by decide)
  have e1 : ((i + 1 : Nat) : Int) * bigP = (i : Int) * bigP + bigP := by
    rw [show ((i + 1 : Nat) : Int) = (i : Int) + 1 by omega, Int.add_mul, Int.one_mul]
  generalize (i : Int) * bigP = Z at *
  generalize t * p = T at *
  generalize p * k = R at *
  have e2 := pw9_succ i
  rw [e1, e2]
  have hb : bigP = 478296900000000000 := rfl
  refine ⟨IntWalk.wrap64_in _ (by omega), IntWalk.wrap64_in _ (by omega), IntWalk.wrap64_in _ (by omega), by omega, by omega, by omega, by omega⟩

set_option maxRecDepth 100000 in
set_option maxHeartbeats 1000000 in
theorem valueAt_any (k : Int) (A : Option Addr) (n c : Nat) (ts : List Int) (w : World) (hR : Ints w A ts) (hn : ts.length = n) (h8 : n ≤ 8) (k0 : -1 ≤ k) (k9 : k ≤ 9) (hB : ∀ t ∈ ts, -big ≤ t ∧ t ≤ big) :
    Calls Try.prog 101 #[.int .i64 k, .slice A n c] w fun e w' => e = .returned (.int .i64 (valL k ts)) ∧ w = w' := by
  have Hn := Lib.hid hn
  have HB := Lib.hid hB
  have hni : (n : Int) ≤ 8 := by omega
  clear hn hB
  go_enter Try.func101, Try.ntmps101
  go_wp2
  go_loop [5, 6, 11] (fun s p i => ∃ (j : Nat) (S P : Int), j ≤ n ∧ i = .int .i64 j ∧ s = .int .i64 S ∧ p = .int .i64 P ∧ S + valP k (ts.drop j) P = valL k ts ∧ -pw9 j ≤ P ∧ P ≤ pw9 j ∧ -((j : Int) * bigP) ≤ S ∧ S ≤ (j : Int) * bigP) (fun _ _ i => n - (intOf i).toNat)
  case atStart => exact ⟨0, 0, 1, Nat.zero_le _, rfl, rfl, rfl, by rw [List.drop_zero]; unfold valL; omega, by decide, by decide, by simp, by simp⟩
  case round =>
    obtain ⟨j, S, P, hj, rfl, rfl, rfl, hs, p1, p2, s1, s2⟩ := hrel
    have HS := Lib.hid hs
    clear hs
    by_cases hlt : j < n
    · obtain ⟨b, o, t, rfl, hbl, hg, hc1⟩ := hR.at_ (k := j) (by rw [Hn.out]; exact hlt)
      obtain ⟨t1, t2⟩ := HB.out t (List.mem_of_getElem? hg)
      obtain ⟨w1, w2, w3, r1, r2, r3, r4⟩ := run_bd (by omega) k0 k9 t1 t2 p1 p2 s1 s2
      have HQ := Lib.hid (show S + t * P + valP k (ts.drop (j + 1)) (P * k) = valL k ts by rw [← HS.out, valP_step hg]; omega)
      have W2 := Lib.hid w2; have W3 := Lib.hid w3; have R1 := Lib.hid r1; have R2 := Lib.hid r2; have R3 := Lib.hid r3; have R4 := Lib.hid r4
      have hjn : (j : Int) < (n : Int) := by omega
      clear hg t1 t2 p1 p2 s1 s2 r1 r2 r3 r4
      go_wp2
      go_round
      case rel => exact ⟨j + 1, S + t * P, P * k, by omega, by go_num, by first | rfl | rw [W2.out], by first | rfl | rw [W3.out], HQ.out, R1.out, R2.out, R3.out, R4.out⟩
      case measure => simp [intOf]; omega
    · obtain rfl : j = n := by omega
      have HQ := Lib.hid (show valL k ts = S by rw [← HS.out, List.drop_of_length_le (by rw [Hn.out]; omega)]; exact Int.add_zero S)
      clear p1 p2 s1 s2
      go_wp2
      go_ret
      exact ⟨ret_int HQ.out.symm, rfl⟩
end Go.Proofs.Ytcndmfkbfimllaa
