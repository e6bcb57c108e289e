/- Judging: the small functions on states. -/
import Derived.Test.YtmklpldmgmjlkaaB
import Derived.Deep.RegionHeld3
namespace Go.Proofs.Ytmklpldmgmjlkaa
open Go.RowKit

theorem ret_bool {a b : Bool} (h : a = b) : Ending.returned (.bool a) = .returned (.bool b) := by rw [h]
theorem settled_yes (a b : Nat) (w : World) (h : a + b ≤ 1) :
    Calls Try.prog 43 #[.agg #[.int .i64 (a : Int), .int .i64 (b : Int)]] w fun e w' => e = .returned (.bool true) ∧ Bel w w' := by
  have h1 : (a : Int) ≤ 1 := by omega
  have h2 : (b : Int) ≤ 1 := by omega
  have h3 : (a : Int) + (b : Int) ≤ 1 := by omega
  clear h
  go_enter Try.func43, Try.ntmps43
  go_wp2
  go_ret
  exact ⟨rfl, by (repeat (first | exact Bel.refl _ | assumption | refine Bel.drew ?_ | refine Bel.drewN ?_ _ | refine Bel.alloc ?_ _ | refine Bel.setCell ?_ (by first | omega | (simp; done) | (simp; omega) | (simp at *; omega)) _ | refine Bel.trans ?_ (by assumption)))⟩
theorem settled_no (a b : Nat) (w : World) (h : ¬ a + b ≤ 1) (hm : a + b ≤ 48) :
    Calls Try.prog 43 #[.agg #[.int .i64 (a : Int), .int .i64 (b : Int)]] w fun e w' => e = .returned (.bool false) ∧ Bel w w' := by
  have h1 : (a : Int) ≤ 48 := by omega
  have h2 : (b : Int) ≤ 48 := by omega
  have h3 : 1 < (a : Int) + (b : Int) := by omega
  clear h hm
  go_enter Try.func43, Try.ntmps43
  go_wp2
  go_ret
  exact ⟨ret_bool (by simpa using h3), by (repeat (first | exact Bel.refl _ | assumption | refine Bel.drew ?_ | refine Bel.drewN ?_ _ | refine Bel.alloc ?_ _ | refine Bel.setCell ?_ (by first | omega | (simp; done) | (simp; omega) | (simp at *; omega)) _ | refine Bel.trans ?_ (by assumption)))⟩
theorem weight_any (a b q : Nat) (w : World) (hm : a + b ≤ 48) (hq : q ≤ 12) :
    Calls Try.prog 30 #[.agg #[.int .i64 (a : Int), .int .i64 (b : Int)], .int .i64 (q : Int)] w fun e w' => e = .returned (.int .i64 ((a * (q + 1) + b : Nat) : Int)) ∧ Bel w w' := by
  have h1 : (a : Int) ≤ 48 := by omega
  have h2 : (b : Int) ≤ 48 := by omega
  have h3 : (q : Int) ≤ 12 := by omega
  have h0 : 0 ≤ (a : Int) * ((q : Int) + 1) ∧ (a : Int) * ((q : Int) + 1) ≤ 48 * 13 := ⟨Int.mul_nonneg (by omega) (by omega), Int.mul_le_mul (by omega) (by omega) (by omega) (by omega)⟩
  obtain ⟨h4, h5⟩ := h0
  clear hm hq
  go_enter Try.func30, Try.ntmps30
  go_wp2
  go_ret
  exact ⟨ret_int (by simp), by (repeat (first | exact Bel.refl _ | assumption | refine Bel.drew ?_ | refine Bel.drewN ?_ _ | refine Bel.alloc ?_ _ | refine Bel.setCell ?_ (by first | omega | (simp; done) | (simp; omega) | (simp at *; omega)) _ | refine Bel.trans ?_ (by assumption)))⟩
theorem after_yes (a b x y : Nat) (w : World) (hm : a + b ≤ 48) (hx : x ≤ a) (hy : y ≤ b) :
    Calls Try.prog 65 #[.agg #[.int .i64 (a : Int), .int .i64 (b : Int)], .int .i64 (x : Int), .int .i64 (y : Int), .bool true] w fun e w' => e = .returned (.agg #[.int .i64 (x : Int), .int .i64 ((y + (a - x) : Nat) : Int)]) ∧ Bel w w' := by
  have e : ((y + (a - x) : Nat) : Int) = (y : Int) + (a : Int) - (x : Int) := by omega
  rw [e]
  have h1 : (a : Int) ≤ 48 := by omega
  have h3 : (x : Int) ≤ 48 := by omega
  have h4 : (y : Int) ≤ 48 := by omega
  clear hm hx hy e
  go_enter Try.func65, Try.ntmps65
  go_wp2
  exact bodyPost_ret (v := .agg #[.int .i64 (x : Int), .int .i64 ((y : Int) + (a : Int) - (x : Int))]) (by simp [results, Try.results65, go_sem]) rfl ⟨rfl, by (repeat (first | exact Bel.refl _ | assumption | refine Bel.drew ?_ | refine Bel.drewN ?_ _ | refine Bel.alloc ?_ _ | refine Bel.setCell ?_ (by first | omega | (simp; done) | (simp; omega) | (simp at *; omega)) _ | refine Bel.trans ?_ (by assumption)))⟩
theorem after_no (a b x y : Nat) (w : World) (hm : a + b ≤ 48) (hx : x ≤ a) (hy : y ≤ b) :
    Calls Try.prog 65 #[.agg #[.int .i64 (a : Int), .int .i64 (b : Int)], .int .i64 (x : Int), .int .i64 (y : Int), .bool false] w fun e w' => e = .returned (.agg #[.int .i64 ((a - x : Nat) : Int), .int .i64 ((b - y + x : Nat) : Int)]) ∧ Bel w w' := by
  have e1 : ((a - x : Nat) : Int) = (a : Int) - (x : Int) := by omega
  have e2 : ((b - y + x : Nat) : Int) = (b : Int) - (y : Int) + (x : Int) := by omega
  rw [e1, e2]
  have h1 : (a : Int) ≤ 48 := by omega
  have h2 : (b : Int) ≤ 48 := by omega
  have h3 : (x : Int) ≤ 48 := by omega
  have h4 : (y : Int) ≤ 48 := by omega
  clear hm hx hy e1 e2
  go_enter Try.func65, Try.ntmps65
  go_wp2
  exact bodyPost_ret (v := .agg #[.int .i64 ((a : Int) - (x : Int)), .int .i64 ((b : Int) - (y : Int) + (x : Int))]) (by simp [results, Try.results65, go_sem]) rfl ⟨rfl, by (repeat (first | exact Bel.refl _ | assumption | refine Bel.drew ?_ | refine Bel.drewN ?_ _ | refine Bel.alloc ?_ _ | refine Bel.setCell ?_ (by first | omega | (simp; done) | (simp; omega) | (simp at *; omega)) _ | refine Bel.trans ?_ (by assumption)))⟩
theorem box2 {w : World} {x y : Int} {ty : TypeId} {w' : World} (h : Bel (w.alloc (.cells #[.int .i64 x, .int .i64 y] ty)) w') : w'.cell? ⟨w.heap.size, 0, none⟩ = some (.int .i64 x) ∧ w'.cell? ⟨w.heap.size, 1, none⟩ = some (.int .i64 y) := by
  refine ⟨?_, ?_⟩ <;> (rw [h.use.1 _ _ (by simp)]; go_simp)
theorem pow_bd (q : Nat) (hq : q ≤ 12) : 1 ≤ ((2 ^ q : Nat) : Int) ∧ ((2 ^ q : Nat) : Int) ≤ 4096 := by
  have h1 : 2 ^ q ≤ 2 ^ 12 := Nat.pow_le_pow_right (by decide) hq
  have h2 : 0 < 2 ^ q := Nat.pow_pos (by decide)
  simp only [show (2 : Nat) ^ 12 = 4096 from rfl] at h1
  omega
set_option maxHeartbeats 400000 in
theorem heavy_any (a b q : Nat) (w : World) (hm : a + b ≤ 48) (hq : q ≤ 12) :
    Calls Try.prog 31 #[.agg #[.int .i64 (a : Int), .int .i64 (b : Int)], .int .i64 (q : Int)] w fun e w' => e = .returned (.bool (decide (((2 ^ q : Nat) : Int) < ((a * (q + 1) + b : Nat) : Int)))) ∧ Bel w w' := by
  obtain ⟨p1, p2⟩ := pow_bd q hq
  have Held := Lib.hid (fun w' (h : Bel (w.alloc (.cells #[.int .i64 (a : Int), .int .i64 (b : Int)] 52)) w') => box2 h)
  have hq2 : (q : Int) ≤ 12 := by omega
  have hq0 : (0 : Int) ≤ q := by omega
  go_enter Try.func31, Try.ntmps31
  go_wp2
  go_region_held3 (fun w' => Bel w w' ∧ w'.cell? ⟨w.heap.size, 0, none⟩ = some (.int .i64 (a : Int)) ∧ w'.cell? ⟨w.heap.size, 1, none⟩ = some (.int .i64 (b : Int))) (exact ⟨by (repeat (first | exact Bel.refl _ | assumption | refine Bel.drew ?_ | refine Bel.drewN ?_ _ | refine Bel.alloc ?_ _ | refine Bel.setCell ?_ (by first | omega | (simp; done) | (simp; omega) | (simp at *; omega)) _ | refine Bel.trans ?_ (by assumption))), Held.out _ (by (repeat (first | exact Bel.refl _ | assumption | refine Bel.drew ?_ | refine Bel.drewN ?_ _ | refine Bel.alloc ?_ _ | refine Bel.setCell ?_ (by first | omega | (simp; done) | (simp; omega) | (simp at *; omega)) _ | refine Bel.trans ?_ (by assumption))))⟩)
    (first | (go_at_call 30; refine (weight_any a b q _ hm hq).mono ?_; rintro e w1 ⟨rfl, hb1⟩))
  go_wp2
  go_ret
  refine ⟨ret_bool ?_, by (repeat (first | exact Bel.refl _ | assumption | refine Bel.drew ?_ | refine Bel.drewN ?_ _ | refine Bel.alloc ?_ _ | refine Bel.setCell ?_ (by first | omega | (simp; done) | (simp; omega) | (simp at *; omega)) _ | refine Bel.trans ?_ (by assumption)))⟩
  show decide (IntKind.i64.wrap (2 ^ q) < (a : Int) * ((q : Int) + 1) + (b : Int)) = _
  have e1 : (2 : Int) ^ q = ((2 ^ q : Nat) : Int) := by simp
  rw [e1, IntWalk.i64_in _ (by omega)]
  simp
theorem heavy_yes (a b q : Nat) (w : World) (hm : a + b ≤ 48) (hq : q ≤ 12) (h : 2 ^ q < a * (q + 1) + b) :
    Calls Try.prog 31 #[.agg #[.int .i64 (a : Int), .int .i64 (b : Int)], .int .i64 (q : Int)] w fun e w' => e = .returned (.bool true) ∧ Bel w w' :=
  (heavy_any a b q w hm hq).mono fun e w' ⟨h1, h2⟩ => ⟨by rw [h1, decide_eq_true (Int.ofNat_lt.2 h)], h2⟩
theorem heavy_no (a b q : Nat) (w : World) (hm : a + b ≤ 48) (hq : q ≤ 12) (h : ¬ 2 ^ q < a * (q + 1) + b) :
    Calls Try.prog 31 #[.agg #[.int .i64 (a : Int), .int .i64 (b : Int)], .int .i64 (q : Int)] w fun e w' => e = .returned (.bool false) ∧ Bel w w' :=
  (heavy_any a b q w hm hq).mono fun e w' ⟨h1, h2⟩ => ⟨by rw [h1, decide_eq_false (fun k => h (Int.ofNat_lt.1 k))], h2⟩
end Go.Proofs.Ytmklpldmgmjlkaa

