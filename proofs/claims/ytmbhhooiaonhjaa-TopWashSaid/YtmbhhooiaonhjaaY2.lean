/- What the laws ask of fractions. -/
import Derived.Test.YtmbhhooiaonhjaaY1
import Derived.Test.YtmbhhooiaonhjaaR
namespace Go.Proofs.Ytmbhhooiaonhjaa
open Go.RowKit

/-- Fractions that can be calculated with. -/
def SmallL (l : List (Int × Int)) : Prop := ∀ x ∈ l, (1 ≤ x.2 ∧ x.2 ≤ 200000) ∧ 0 ≤ x.1 ∧ x.1 ≤ 100000000

set_option maxHeartbeats 400000 in
theorem small_any (A : Option Addr) (n c : Nat) (l : List (Int × Int)) (w : World) (hR : Prs w A l) (hn : l.length = n) (hlen : n ≤ 40) (hs : SmallL l) :
    Calls Try.prog 20 #[.slice A n c] w fun e w' => e = .returned (.bool true) ∧ w = w' := by
  have Hn := Lib.hid hn; clear hn
  go_enter Try.func20, Try.ntmps20
  go_wp2
  go_loop [3] (fun i => ∃ k : Nat, k ≤ n ∧ i = .int .i64 k) (fun i => n - (intOf i).toNat)
  case atStart => exact ⟨0, Nat.zero_le _, rfl⟩
  case round =>
    obtain ⟨k, hk, rfl⟩ := hrel
    by_cases hlt : k < n
    · obtain ⟨b, o, x, y, rfl, hbl, hg, hc1, hc2⟩ := hR.at_ (k := k) (by rw [Hn.out]; exact hlt)
      obtain ⟨⟨q1, q2⟩, q3, q4⟩ := hs (x, y) (List.mem_of_getElem? hg)
      simp only at q1 q2 q3 q4
      clear hg hs
      go_wp2
      go_round
      case rel => exact ⟨k + 1, by omega, by go_num⟩
      case measure => simp [intOf]; omega
    · obtain rfl : k = n := by omega
      go_wp2
      go_ret
      exact ⟨rfl, rfl⟩

/-- What sinks and what stays adds up to the mass. -/
theorem split_adds {m k d : Int} (hm : 0 ≤ m) (hk : 0 ≤ k) (hkd : k ≤ d) (hd : 0 < d) :
    nd ((nd (m * k) d).1 * (nd (m * (d - k)) d).2 + (nd (m * (d - k)) d).1 * (nd (m * k) d).2) ((nd (m * k) d).2 * (nd (m * (d - k)) d).2) = (m, 1) := by
  have n1 := Int.mul_nonneg hm hk
  have n2 : 0 ≤ m * (d - k) := Int.mul_nonneg hm (by omega)
  have c1 := num_den n1 hd
  have c2 := num_den n2 hd
  obtain ⟨a1, a2⟩ := num_bd n1 hd
  obtain ⟨a3, a4⟩ := num_bd n2 hd
  obtain ⟨b1, b2⟩ := den_bd n1 hd
  obtain ⟨b3, b4⟩ := den_bd n2 hd
  rw [← nd_one hm]
  simp only [nd] at *
  generalize num (m * k) d = x1 at *
  generalize den (m * k) d = x2 at *
  generalize num (m * (d - k)) d = y1 at *
  generalize den (m * (d - k)) d = y2 at *
  have h1 : 0 ≤ x1 * y2 + y1 * x2 := by
    have := Int.mul_nonneg a1 (Int.le_of_lt b3)
    have := Int.mul_nonneg a3 (Int.le_of_lt b1)
    omega
  have key : (x1 * y2 + y1 * x2) * 1 = m * (x2 * y2) := by
    have e : (x1 * y2 + y1 * x2) * d = m * (x2 * y2) * d := by
      calc (x1 * y2 + y1 * x2) * d = (x1 * d) * y2 + (y1 * d) * x2 := by rw [Int.add_mul]; ac_rfl
        _ = (m * k * x2) * y2 + (m * (d - k) * y2) * x2 := by rw [c1, c2]
        _ = m * (x2 * y2) * (k + (d - k)) := by rw [Int.mul_add]; ac_rfl
        _ = m * (x2 * y2) * d := by rw [show k + (d - k) = d from by omega]
    rw [Int.mul_one]
    exact Int.eq_of_mul_eq_mul_right (by omega) e
  have := nd_eq (a := x1 * y2 + y1 * x2) (b := x2 * y2) (c := m) (d := 1) h1 (Int.mul_pos b1 b3) hm (by omega) key
  simp only [nd] at this
  exact this
end Go.Proofs.Ytmbhhooiaonhjaa

