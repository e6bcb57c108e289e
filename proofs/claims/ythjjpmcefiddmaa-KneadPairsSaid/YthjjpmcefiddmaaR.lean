/- Sums as two digits; Pairs of the program. -/
import Derived.Test.YthjjpmcefiddmaaG
import Derived.Laws.Externs
import Derived.Laws.Bits64
import Derived.Deep.RegionHeld3
import Derived.ChangeKeysEq
namespace Go.Proofs.Ythjjpmcefiddmaa
open Go.RowKit

attribute [local go_sem] Oper.semAt_some

/-- a and b are numbers that an int holds. -/
def InI (a : Int) : Prop := -9223372036854775808 ≤ a ∧ a ≤ 9223372036854775807
def sumV (a b : Int) : Value := .agg #[.int .u64 ((a + b + 18446744073709551616) / 18446744073709551616), .int .u64 ((a + b) % 18446744073709551616)]
theorem wrap_up {a : Int} (h : InI a) : IntKind.u64.wrap (IntKind.u64.wrap a + 9223372036854775808) = a + 9223372036854775808 := by
  unfold InI at h
  simp only [IntKind.wrap, IntKind.bits, IntKind.signed]
  simp
  omega
theorem run_add (x y : Int) (hx : 0 ≤ x) (hy : 0 ≤ y) (w : World) : (callFunc 118 #[.int .u64 x, .int .u64 y, .int .u64 0]).run Try.prog w = .ok (.value (.tuple #[.int .u64 ((x + y) % 18446744073709551616), .int .u64 ((x + y) / 18446744073709551616)])) w := by
  have h := run_add64 (P := Try.prog) x y 0 hx hy (by omega) (by omega) w
  rw [Int.add_zero] at h
  rw [run_callFunc_extern Try.func118 (by kernel_rfl) (by kernel_rfl) (by kernel_rfl) (e := add64Entry) (by kernel_rfl), h]
  rfl
set_option maxRecDepth 100000 in
set_option maxHeartbeats 1000000 in
theorem sum_any (a b : Int) (w : World) (ha : InI a) (hb : InI b) : Calls Try.prog 101 #[.int .i64 a, .int .i64 b] w fun e w' => e = .returned (sumV a b) ∧ Bel w w' := by
  have wa := wrap_up ha
  have wb := wrap_up hb
  have hx : 0 ≤ a + 9223372036854775808 := by unfold InI at ha; omega
  have hy : 0 ≤ b + 9223372036854775808 := by unfold InI at hb; omega
  have he := fun (w : World) => run_add (a + 9223372036854775808) (b + 9223372036854775808) hx hy w
  rw [show a + 9223372036854775808 + (b + 9223372036854775808) = a + b + 18446744073709551616 from by omega] at he
  go_enter Try.func101, Try.ntmps101
  go_wp2_with (simp only [he])
  go_wp2
  exact bodyPost_ret (v := sumV a b) (by simp [results, Try.results101, go_sem, sumV]) rfl ⟨rfl, by (repeat (first | exact Bel.refl _ | assumption | refine Bel.drew ?_ | refine Bel.drewN ?_ _ | refine Bel.alloc ?_ _ | refine Bel.setCell ?_ (by first | omega | (simp; done) | (simp; omega) | (simp at *; omega)) _ | refine Bel.trans ?_ (by assumption)))⟩
theorem infoU64 : (Try.prog.info? 82).map (fun i => (i.zero, i.size, i.bytes)) = some (some (.int .u64 0), 1, 8) := by kernel_rfl
theorem run_eq2 (w : World) (a b x y : Int) : (Op.equalIn 10000 88 (.agg #[.int .u64 a, .int .u64 b]) (.agg #[.int .u64 x, .int .u64 y])).run Try.prog w = .ok (a == x && b == y) w := by
  obtain ⟨i, hi, hzz⟩ := Option.map_eq_some_iff.1 infoU64
  have hp : Try.prog.plainKey 82 = true := by kernel_rfl
  have hcells : Try.prog.cellsOf 82 = 1 := by kernel_rfl
  rw [show (10000 : Nat) = 9999 + 1 from rfl, run_equalIn_array w 9999 _ _ Try.underlying88 hi, show List.range 2 = [0, 1] from rfl, hcells]
  have p := fun (xs : Array Value) (off : Nat) (v : Value) (h : xs[off]? = some v) => run_part_plain w hp h
  have e : ∀ a b : Int, (Op.equalIn 9999 82 (.int .u64 a) (.int .u64 b)).run Try.prog w = .ok (a == b) w := fun a b => run_equalIn_int (P := Try.prog) w 9998 82 .u64 .u64 a b Try.underlying82
  simp only [Op.eqItems, Sem.run_bind]
  rw [p _ (0 * 1) (.int .u64 a) (by rfl), Result.andThen_ok, p _ (0 * 1) (.int .u64 x) (by rfl), Result.andThen_ok, e, Result.andThen_ok]
  cases h1 : (a == x)
  · simp
  · rw [Bool.not_true, if_neg (by decide), Sem.run_bind, p _ (1 * 1) (.int .u64 b) (by rfl), Result.andThen_ok, Sem.run_bind, p _ (1 * 1) (.int .u64 y) (by rfl), Result.andThen_ok, Sem.run_bind, e, Result.andThen_ok]
    cases h2 : (b == y) <;> simp
theorem sums_eq (a b c d : Int) : ((a + b + 18446744073709551616) / 18446744073709551616 == (c + d + 18446744073709551616) / 18446744073709551616 && (a + b) % 18446744073709551616 == (c + d) % 18446744073709551616) = decide (a + b = c + d) := by
  by_cases h : a + b = c + d
  · rw [h]; simp
  · rw [decide_eq_false h, Bool.and_eq_false_iff]
    by_cases h1 : (a + b + 18446744073709551616) / 18446744073709551616 = (c + d + 18446744073709551616) / 18446744073709551616
    · refine .inr ?_
      have : (a + b) % 18446744073709551616 ≠ (c + d) % 18446744073709551616 := by omega
      simpa using this
    · exact .inl (by simpa using h1)
attribute [local go_sem] run_eq2
theorem sumV_same {a b c d : Int} (h : a + b = c + d) : ∃ p q : Int, sumV a b = .agg #[.int .u64 p, .int .u64 q] ∧ sumV c d = .agg #[.int .u64 p, .int .u64 q] := by
  unfold sumV
  rw [h]
  exact ⟨_, _, rfl, rfl⟩
theorem sumV_other {a b c d : Int} (h : ¬ a + b = c + d) : ∃ p q p' q' : Int, sumV a b = .agg #[.int .u64 p, .int .u64 q] ∧ sumV c d = .agg #[.int .u64 p', .int .u64 q'] ∧ (p == p' && q == q') = false := by
  refine ⟨_, _, _, _, rfl, rfl, ?_⟩
  rw [sums_eq, decide_eq_false h]
/-- Does each pair of opposite lumps add up to the same? -/
def pairsB (h : Nat) (l : List Int) : Bool := decide (∀ p, p < 2 * h → l.getD p 0 + l.getD (2 * h - 1 - p) 0 = l.getD 0 0 + l.getD (2 * h - 1) 0)
set_option maxRecDepth 100000 in
set_option maxHeartbeats 2000000 in
theorem pairs_ok (h : Nat) (A : Option Addr) (c : Nat) (l : List Int) (w : World) (h1 : 1 ≤ h) (h16 : h ≤ 16) (hR : Ints w A l) (hl : l.length = 2 * h) (hin : ∀ v ∈ l, InI v) :
    Calls Try.prog 77 #[.slice A (2 * h) c] w fun e w' => e = .returned (.tuple #[.bool (pairsB h l), .int .i64 0]) ∧ Bel w w' := by
  have HE := Lib.hid (eD_half h1 h16)
  obtain ⟨b, o, rfl, hS⟩ := Seg.of_ints hR (by omega)
  rw [hl] at hS
  have HIN : Hid (∀ q, q < 2 * h → InI (l.getD q 0)) := fun q hq => by
    rw [List.getD_eq_getElem?_getD, List.getElem?_eq_getElem (by omega)]
    exact hin _ (List.getElem_mem _)
  obtain ⟨f, hf⟩ : ∃ f : Nat → Int, f = fun q => l.getD q 0 := ⟨_, rfl⟩
  have HB : Hid (pairsB h l = decide (∀ p, p < 2 * h → f p + f (2 * h - 1 - p) = f 0 + f (2 * h - 1))) := by rw [hf]; exact rfl
  have HINF : Hid (∀ q, q < 2 * h → InI (f q)) := by rw [hf]; exact HIN.out
  rw [← hf] at hS
  rw [HB.out]
  obtain ⟨z, hz⟩ : ∃ z : Nat, z = 2 * h - 1 := ⟨_, rfl⟩
  have hzi : 2 * (h : Int) - 1 = (z : Int) := by omega
  have hz2 : z + 1 = 2 * h := by omega
  rw [← hz]
  have HZ0 := Lib.hid hz
  clear hR hl hin HIN hf hz
  go_enter Try.func77, Try.ntmps77
  go_wp2_with fail
  refine (validate_any _ (2 * h) c _).mono ?_
  rintro e w1 ⟨rfl, hw⟩
  subst hw
  rw [HE.out]
  go_wp2
  go_loopw [6, 7, 18] (fun _ _ i wr => ∃ k : Nat, k ≤ 2 * h ∧ i = .int .i64 k ∧ Bel w wr ∧ ∀ j, j < k → f j + f (z - j) = f 0 + f z) (fun _ _ i _ => 2 * h - (intOf i).toNat)
  case atStart => exact ⟨0, Nat.zero_le _, rfl, by (repeat (first | exact Bel.refl _ | assumption | refine Bel.drew ?_ | refine Bel.drewN ?_ _ | refine Bel.alloc ?_ _ | refine Bel.setCell ?_ (by first | omega | (simp; done) | (simp; omega) | (simp at *; omega)) _ | refine Bel.trans ?_ (by assumption))), fun j hj => by omega⟩
  case round =>
    obtain ⟨k, hk, rfl, hb, hzz⟩ := hrel
    have HZ := Lib.hid hzz
    clear hzz
    by_cases hlt : k < 2 * h
    · have hki : (k : Int) < 2 * (h : Int) := by omega
      have hm5 : (0 : Int) ≤ (z : Int) - (k : Int) := by omega
      have hm6 : (z : Int) - (k : Int) < 2 * (h : Int) := by omega
      have hm7 : (k : Int) ≤ (z : Int) := by omega
      have hm8 : k ≤ z := by omega
      have hmw : IntKind.i64.wrap ((z : Int) - (k : Int)) = (z : Int) - (k : Int) := IntWalk.i64_in _ (by omega)
      have hm2 : z - k < 2 * h := by omega
      have hz3 : (z : Int) < 2 * (h : Int) := by omega
      have hz4 : z < 2 * h := by omega
      have hz5 : (0 : Int) ≤ (z : Int) := by omega
      have h03 : (0 : Int) < 2 * (h : Int) := by omega
      have h04 : 0 < 2 * h := by omega
      have hSr := hS.bel hb
      have c1 := hSr.cells k hlt
      have HC : Hid (∀ w', Bel wr w' → w'.cell? ⟨b, o + (z - k), none⟩ = some (.int .i64 (f (z - k))) ∧ w'.cell? ⟨b, o, none⟩ = some (.int .i64 (f 0)) ∧ w'.cell? ⟨b, o + z, none⟩ = some (.int .i64 (f z))) := fun w' hb' => by
        have hS' := hSr.bel hb'
        refine ⟨hS'.cells (z - k) (by omega), ?_, hS'.cells z (by omega)⟩
        have := hS'.cells 0 (by omega)
        rwa [Nat.add_zero] at this
      have HX := Lib.hid (HINF.out k hlt); have HM := Lib.hid (HINF.out (z - k) (by omega)); have H0 := Lib.hid (HINF.out 0 (by omega)); have HZZ := Lib.hid (HINF.out z (by omega))
      have n1 := hSr.lt
      obtain ⟨x, hx⟩ : ∃ x, x = f k := ⟨_, rfl⟩
      obtain ⟨y, hy⟩ : ∃ y, y = f (z - k) := ⟨_, rfl⟩
      obtain ⟨u, hu⟩ : ∃ u, u = f 0 := ⟨_, rfl⟩
      obtain ⟨v, hv⟩ : ∃ v, v = f z := ⟨_, rfl⟩
      rw [← hx] at c1 HX
      rw [← hy] at HM HC
      rw [← hu] at H0 HC
      rw [← hv] at HZZ HC
      have HNXT : Hid (x + y = u + v → ∀ j, j < k + 1 → f j + f (z - j) = f 0 + f z) := fun e j hj => by
        rcases (by omega : j < k ∨ j = k) with h | rfl
        · exact HZ.out j h
        · rw [← hx, ← hy, ← hu, ← hv, e]
      have HBAD : Hid (¬ x + y = u + v → decide (∀ p, p < 2 * h → f p + f (z - p) = f 0 + f z) = false) := fun e => decide_eq_false fun e2 => e (by
        have := e2 k hlt
        rwa [← hx, ← hy, ← hu, ← hv] at this)
      have k1 := HC.out wr (Bel.refl _)
      clear hx hy hu hv
      by_cases hxy : x + y = u + v
      · have HN := Lib.hid (HNXT.out hxy)
        obtain ⟨P, Q, hs1, hs2⟩ := sumV_same hxy
        have HS1 := Lib.hid hs1; have HS2 := Lib.hid hs2
        clear hxy hs1 hs2
        go_wp2
        go_region_held3 (fun w' => Bel wr w' ∧ w'.cell? ⟨b, o + (z - k), none⟩ = some (.int .i64 y) ∧ w'.cell? ⟨b, o, none⟩ = some (.int .i64 u) ∧ w'.cell? ⟨b, o + z, none⟩ = some (.int .i64 v)) (exact ⟨by (repeat (first | exact Bel.refl _ | assumption | refine Bel.drew ?_ | refine Bel.drewN ?_ _ | refine Bel.alloc ?_ _ | refine Bel.setCell ?_ (by first | omega | (simp; done) | (simp; omega) | (simp at *; omega)) _ | refine Bel.trans ?_ (by assumption))), HC.out _ (by (repeat (first | exact Bel.refl _ | assumption | refine Bel.drew ?_ | refine Bel.drewN ?_ _ | refine Bel.alloc ?_ _ | refine Bel.setCell ?_ (by first | omega | (simp; done) | (simp; omega) | (simp at *; omega)) _ | refine Bel.trans ?_ (by assumption))))⟩)
          (first | (go_at_call_of 101 (Value.int .i64 x); refine (sum_any x y _ HX.out HM.out).mono ?_; rintro e w4 ⟨rfl, hb4⟩; rw [HS1.out]) | (go_at_call_of 101 (Value.int .i64 u); refine (sum_any u v _ H0.out HZZ.out).mono ?_; rintro e w5 ⟨rfl, hb5⟩; rw [HS2.out]))
        go_wp2
        go_roundw
        case rel => exact ⟨k + 1, by omega, by go_num, by (repeat (first | exact Bel.refl _ | assumption | refine Bel.drew ?_ | refine Bel.drewN ?_ _ | refine Bel.alloc ?_ _ | refine Bel.setCell ?_ (by first | omega | (simp; done) | (simp; omega) | (simp at *; omega)) _ | refine Bel.trans ?_ (by assumption))), HN.out⟩
        case measure => simp [intOf]; omega
      · have HN := Lib.hid (HBAD.out hxy)
        obtain ⟨P, Q, P', Q', hs1, hs2, hne⟩ := sumV_other hxy
        have HS1 := Lib.hid hs1; have HS2 := Lib.hid hs2
        clear hxy hs1 hs2
        go_wp2
        go_region_held3 (fun w' => Bel wr w' ∧ w'.cell? ⟨b, o + (z - k), none⟩ = some (.int .i64 y) ∧ w'.cell? ⟨b, o, none⟩ = some (.int .i64 u) ∧ w'.cell? ⟨b, o + z, none⟩ = some (.int .i64 v)) (exact ⟨by (repeat (first | exact Bel.refl _ | assumption | refine Bel.drew ?_ | refine Bel.drewN ?_ _ | refine Bel.alloc ?_ _ | refine Bel.setCell ?_ (by first | omega | (simp; done) | (simp; omega) | (simp at *; omega)) _ | refine Bel.trans ?_ (by assumption))), HC.out _ (by (repeat (first | exact Bel.refl _ | assumption | refine Bel.drew ?_ | refine Bel.drewN ?_ _ | refine Bel.alloc ?_ _ | refine Bel.setCell ?_ (by first | omega | (simp; done) | (simp; omega) | (simp at *; omega)) _ | refine Bel.trans ?_ (by assumption))))⟩)
          (first | (go_at_call_of 101 (Value.int .i64 x); refine (sum_any x y _ HX.out HM.out).mono ?_; rintro e w4 ⟨rfl, hb4⟩; rw [HS1.out]) | (go_at_call_of 101 (Value.int .i64 u); refine (sum_any u v _ H0.out HZZ.out).mono ?_; rintro e w5 ⟨rfl, hb5⟩; rw [HS2.out]))
        go_wp2
        exact bodyPost_ret (v := .tuple #[.bool false, .int .i64 0]) (by simp [results, Try.results77, go_sem]) rfl ⟨by rw [HN.out], by (repeat (first | exact Bel.refl _ | assumption | refine Bel.drew ?_ | refine Bel.drewN ?_ _ | refine Bel.alloc ?_ _ | refine Bel.setCell ?_ (by first | omega | (simp; done) | (simp; omega) | (simp at *; omega)) _ | refine Bel.trans ?_ (by assumption)))⟩
    · obtain rfl : k = 2 * h := by omega
      have HF := Lib.hid (show decide (∀ p, p < 2 * h → f p + f (z - p) = f 0 + f z) = true from decide_eq_true HZ.out)
      go_wp2
      exact bodyPost_ret (v := .tuple #[.bool true, .int .i64 0]) (by simp [results, Try.results77, go_sem]) rfl ⟨by rw [HF.out], hb⟩
set_option maxRecDepth 100000 in
set_option maxHeartbeats 1000000 in
theorem pairs_err (A : Option Addr) (n c : Nat) (w : World) (hE : eD n ≠ 0) : Calls Try.prog 77 #[.slice A n c] w fun e w' => e = .returned (.tuple #[.bool false, .int .i64 1]) ∧ Bel w w' := by
  have HE := Lib.hid (eD_one hE)
  clear hE
  go_enter Try.func77, Try.ntmps77
  go_wp2_with fail
  refine (validate_any _ n c _).mono ?_
  rintro e w1 ⟨rfl, rfl⟩
  rw [HE.out]
  go_wp2
  exact bodyPost_ret (v := .tuple #[.bool false, .int .i64 1]) (by simp [results, Try.results77, go_sem]) rfl ⟨rfl, Bel.refl _⟩
end Go.Proofs.Ythjjpmcefiddmaa
