/- slices.Max, slices.Min, Long. -/
import Derived.Test.YtfjegdejfccgaaaG
namespace Go.Proofs.Ytfjegdejfccgaaa
open Go.RowKit

/-- The greatest of some numbers, and the smallest. -/
def maxI : List Int → Int
  | [] => 0
  | x :: r => r.foldl max x
def minI : List Int → Int
  | [] => 0
  | x :: r => r.foldl min x
theorem maxI_snoc {l : List Int} (h : l ≠ []) (y : Int) : maxI (l ++ [y]) = max (maxI l) y := by
  cases l with
  | nil => exact absurd rfl h
  | cons x r => simp [maxI]
theorem minI_snoc {l : List Int} (h : l ≠ []) (y : Int) : minI (l ++ [y]) = min (minI l) y := by
  cases l with
  | nil => exact absurd rfl h
  | cons x r => simp [minI]
theorem take_one {l : List Int} {x : Int} (h : l[0]? = some x) : l.take 1 = [x] := by
  have := take_at h
  simpa using this
theorem take_ne {l : List Int} {k n : Nat} (hn : l.length = n) (h1 : 1 ≤ k) (h2 : k ≤ n) : l.take k ≠ [] := by
  intro e
  have := congrArg List.length e
  rw [List.length_take, List.length_nil] at this
  omega
set_option maxHeartbeats 400000 in
theorem max_any (A : Option Addr) (n c : Nat) (l : List Int) (w : World) (hR : Ints w A l) (hn : l.length = n) (h1 : 1 ≤ n) (hmax : n ≤ maxLen) :
    Calls Try.prog 81 #[.slice A n c] w fun e w' => e = .returned (.int .i64 (maxI l)) ∧ w = w' := by
  have Hn := Lib.hid hn
  have hm : (n : Int) ≤ 9223372036854775807 := by unfold maxLen at hmax; omega
  have hn1 : (1 : Int) ≤ (n : Int) := by omega
  obtain ⟨b, o, x, rfl, hbl, hg, hc1⟩ := hR.at_ (k := 0) (by omega)
  rw [Nat.add_zero] at hc1
  have HT := Lib.hid (take_one hg)
  have HTN := Lib.hid (fun k (a : 1 ≤ k) (b : k ≤ n) => take_ne hn a b)
  clear hmax hg hn
  go_enter Try.func81, Try.ntmps81
  go_wp2
  go_loop [3, 4] (fun s i => ∃ k : Nat, 1 ≤ k ∧ k ≤ n ∧ i = .int .i64 k ∧ s = .int .i64 (maxI (l.take k))) (fun _ i => n - (intOf i).toNat)
  case atStart => exact ⟨1, Nat.le_refl _, h1, rfl, by rw [HT.out]; rfl⟩
  case round =>
    obtain ⟨k, k1, hk, rfl, rfl⟩ := hrel
    by_cases hlt : k < n
    · obtain ⟨b', o', v, hA, hbl, hg, hc1⟩ := hR.at_ (k := k) (by rw [Hn.out]; exact hlt)
      injection hA with hA
      injection hA with e1 e2
      subst e1 e2
      have HT2 := Lib.hid (show maxI (l.take (k + 1)) = max (maxI (l.take k)) v by rw [take_at hg, maxI_snoc (HTN.out k k1 hk)])
      obtain ⟨u, hu⟩ : ∃ u, u = maxI (l.take k) := ⟨_, rfl⟩
      rw [← hu]
      have HU := Lib.hid hu
      clear hg hu
      by_cases hc : u < v
      · have HQ := Lib.hid (show maxI (l.take (k + 1)) = v by rw [HT2.out, ← HU.out]; omega)
        go_wp2
        go_round
        case rel => exact ⟨k + 1, by omega, by omega, by go_num, by rw [HQ.out]⟩
        case measure => simp [intOf]; omega
      · have HQ := Lib.hid (show maxI (l.take (k + 1)) = u by rw [HT2.out, ← HU.out]; omega)
        have hci : v ≤ u := by omega
        clear hc
        go_wp2
        go_round
        case rel => exact ⟨k + 1, by omega, by omega, by go_num, by rw [HQ.out]⟩
        case measure => simp [intOf]; omega
    · obtain rfl : k = n := by omega
      have HT2 := Lib.hid (show l.take k = l from List.take_of_length_le (by rw [Hn.out]; omega))
      rw [HT2.out]
      go_wp2
      go_ret
      exact ⟨rfl, rfl⟩
set_option maxHeartbeats 400000 in
theorem min_any (A : Option Addr) (n c : Nat) (l : List Int) (w : World) (hR : Ints w A l) (hn : l.length = n) (h1 : 1 ≤ n) (hmax : n ≤ maxLen) :
    Calls Try.prog 89 #[.slice A n c] w fun e w' => e = .returned (.int .i64 (minI l)) ∧ w = w' := by
  have Hn := Lib.hid hn
  have hm : (n : Int) ≤ 9223372036854775807 := by unfold maxLen at hmax; omega
  have hn1 : (1 : Int) ≤ (n : Int) := by omega
  obtain ⟨b, o, x, rfl, hbl, hg, hc1⟩ := hR.at_ (k := 0) (by omega)
  rw [Nat.add_zero] at hc1
  have HT := Lib.hid (take_one hg)
  have HTN := Lib.hid (fun k (a : 1 ≤ k) (b : k ≤ n) => take_ne hn a b)
  clear hmax hg hn
  go_enter Try.func89, Try.ntmps89
  go_wp2
  go_loop [3, 4] (fun s i => ∃ k : Nat, 1 ≤ k ∧ k ≤ n ∧ i = .int .i64 k ∧ s = .int .i64 (minI (l.take k))) (fun _ i => n - (intOf i).toNat)
  case atStart => exact ⟨1, Nat.le_refl _, h1, rfl, by rw [HT.out]; rfl⟩
  case round =>
    obtain ⟨k, k1, hk, rfl, rfl⟩ := hrel
    by_cases hlt : k < n
    · obtain ⟨b', o', v, hA, hbl, hg, hc1⟩ := hR.at_ (k := k) (by rw [Hn.out]; exact hlt)
      injection hA with hA
      injection hA with e1 e2
      subst e1 e2
      have HT2 := Lib.hid (show minI (l.take (k + 1)) = min (minI (l.take k)) v by rw [take_at hg, minI_snoc (HTN.out k k1 hk)])
      obtain ⟨u, hu⟩ : ∃ u, u = minI (l.take k) := ⟨_, rfl⟩
      rw [← hu]
      have HU := Lib.hid hu
      clear hg hu
      by_cases hc : v < u
      · have HQ := Lib.hid (show minI (l.take (k + 1)) = v by rw [HT2.out, ← HU.out]; omega)
        go_wp2
        go_round
        case rel => exact ⟨k + 1, by omega, by omega, by go_num, by rw [HQ.out]⟩
        case measure => simp [intOf]; omega
      · have HQ := Lib.hid (show minI (l.take (k + 1)) = u by rw [HT2.out, ← HU.out]; omega)
        have hci : u ≤ v := by omega
        clear hc
        go_wp2
        go_round
        case rel => exact ⟨k + 1, by omega, by omega, by go_num, by rw [HQ.out]⟩
        case measure => simp [intOf]; omega
    · obtain rfl : k = n := by omega
      have HT2 := Lib.hid (show l.take k = l from List.take_of_length_le (by rw [Hn.out]; omega))
      rw [HT2.out]
      go_wp2
      go_ret
      exact ⟨rfl, rfl⟩
/-- A yes or a no. -/
def AnyB (w : World) (e : Ending) (w' : World) : Prop := ∃ b : Bool, e = .returned (.bool b) ∧ Bel w w'
set_option maxRecDepth 100000 in
set_option maxHeartbeats 1000000 in
theorem long_any (A B : Option Addr) (n c m d : Nat) (X Y : List (List Int)) (w : World) (hS : Strk w A n B m X Y) :
    Calls Try.prog 35 #[.agg #[.slice A n c, .slice B m d]] w (AnyB w) := by
  obtain ⟨hX, hY, hn, hm⟩ := hS
  have HN := Lib.hid hn; have HM := Lib.hid hm
  clear hn hm
  by_cases h1 : 50 < n
  · have i1 : 50 < (n : Int) := by omega
    clear h1
    go_enter Try.func35, Try.ntmps35
    go_wp2
    go_ret
    exact ⟨_, rfl, by (repeat (first | exact Bel.refl _ | assumption | refine Bel.drew ?_ | refine Bel.drewN ?_ _ | refine Bel.alloc ?_ _ | refine Bel.setCell ?_ (by first | omega | (simp; done) | (simp; omega) | (simp at *; omega)) _ | refine Bel.trans ?_ (by assumption)))⟩
  · have i1 : (n : Int) ≤ 50 := by omega
    by_cases h2 : 50 < m
    · have i2 : 50 < (m : Int) := by omega
      clear h1 h2
      go_enter Try.func35, Try.ntmps35
      go_wp2
      go_ret
      exact ⟨_, rfl, by (repeat (first | exact Bel.refl _ | assumption | refine Bel.drew ?_ | refine Bel.drewN ?_ _ | refine Bel.alloc ?_ _ | refine Bel.setCell ?_ (by first | omega | (simp; done) | (simp; omega) | (simp at *; omega)) _ | refine Bel.trans ?_ (by assumption)))⟩
    · have i2 : (m : Int) ≤ 50 := by omega
      clear h1 h2
      have hXw := hX.bel ((Bel.refl w).alloc (.cells #[.slice A n c, .slice B m d] 24))
      have hYw := hY.bel ((Bel.refl w).alloc (.cells #[.slice A n c, .slice B m d] 24))
      go_enter Try.func35, Try.ntmps35
      go_wp2
      go_loop [3] (fun i => ∃ k : Nat, k ≤ n ∧ i = .int .i64 k) (fun i => n - (intOf i).toNat)
      case atStart => exact ⟨0, Nat.zero_le _, rfl⟩
      case round =>
        obtain ⟨k, hk, rfl⟩ := hrel
        by_cases hlt : k < n
        · obtain ⟨b, o, ns, A', n', c', rfl, hbl, hg, hcell, hI, hl, hmm⟩ := hXw.at_ (k := k) (by rw [HN.out]; exact hlt)
          clear hg hl hI
          by_cases h3 : 50 < n'
          · have i3 : 50 < (n' : Int) := by omega
            clear h3
            go_wp2
            go_ret
            exact ⟨_, rfl, by (repeat (first | exact Bel.refl _ | assumption | refine Bel.drew ?_ | refine Bel.drewN ?_ _ | refine Bel.alloc ?_ _ | refine Bel.setCell ?_ (by first | omega | (simp; done) | (simp; omega) | (simp at *; omega)) _ | refine Bel.trans ?_ (by assumption)))⟩
          · have i3 : (n' : Int) ≤ 50 := by omega
            clear h3
            go_wp2
            go_round
            case rel => exact ⟨k + 1, by omega, by go_num⟩
            case measure => simp [intOf]; omega
        · obtain rfl : k = n := by omega
          clear hXw hlt
          go_wp2
          go_loop [4] (fun i => ∃ k : Nat, k ≤ m ∧ i = .int .i64 k) (fun i => m - (intOf i).toNat)
          case atStart => exact ⟨0, Nat.zero_le _, rfl⟩
          case round =>
            obtain ⟨q, hq, rfl⟩ := hrel
            by_cases hlt : q < m
            · obtain ⟨b, o, ns, A', n', c', rfl, hbl, hg, hcell, hI, hl, hmm⟩ := hYw.at_ (k := q) (by rw [HM.out]; exact hlt)
              clear hg hl hI
              by_cases h3 : 50 < n'
              · have i3 : 50 < (n' : Int) := by omega
                clear h3
                go_wp2
                go_ret
                exact ⟨_, rfl, by (repeat (first | exact Bel.refl _ | assumption | refine Bel.drew ?_ | refine Bel.drewN ?_ _ | refine Bel.alloc ?_ _ | refine Bel.setCell ?_ (by first | omega | (simp; done) | (simp; omega) | (simp at *; omega)) _ | refine Bel.trans ?_ (by assumption)))⟩
              · have i3 : (n' : Int) ≤ 50 := by omega
                clear h3
                go_wp2
                go_round
                case rel => exact ⟨q + 1, by omega, by go_num⟩
                case measure => simp [intOf]; omega
            · obtain rfl : q = m := by omega
              go_wp2
              go_ret
              exact ⟨_, rfl, by (repeat (first | exact Bel.refl _ | assumption | refine Bel.drew ?_ | refine Bel.drewN ?_ _ | refine Bel.alloc ?_ _ | refine Bel.setCell ?_ (by first | omega | (simp; done) | (simp; omega) | (simp at *; omega)) _ | refine Bel.trans ?_ (by assumption)))⟩
end Go.Proofs.Ytfjegdejfccgaaa
