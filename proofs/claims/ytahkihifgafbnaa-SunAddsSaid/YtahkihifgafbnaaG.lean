/- Which tables are right, by the program. -/
import Derived.Test.YtahkihifgafbnaaE
namespace Go.Proofs.Ytahkihifgafbnaa
open Go.RowKit

/-- A row of answers. -/
def rowB (n : Nat) (r : List Int) : Bool := r.all (fun x => decide (x = 0) || decide (x = 1)) && decide (r.length = n)
def pairsB (T : List (List Int)) (a k : Nat) : Bool := (List.range k).all fun b => !decide (ent T a b = ent T b a)
def diagB (T : List (List Int)) (k : Nat) : Bool := (List.range k).all fun a => decide (ent T a a = 0) && pairsB T a a
def rowsB (T : List (List Int)) (n : Nat) : Bool := T.all (rowB n)
/-- The program's answer. -/
def errT (T : List (List Int)) : Int := if 1 ≤ T.length ∧ T.length ≤ 7 then (if (rowsB T T.length && diagB T T.length) = true then 0 else 1) else 3
theorem rowsB_square {T : List (List Int)} {n : Nat} (hn : T.length = n) (h : rowsB T n = true) : Square T n := by
  refine ⟨hn, fun r hr => ?_⟩
  have := List.all_eq_true.1 h r hr
  simp only [rowB, Bool.and_eq_true, decide_eq_true_eq] at this
  exact this.2
theorem all01 {r : List Int} {k : Nat} {x : Int} (h : (r.take k).all (fun x => decide (x = 0) || decide (x = 1)) = true) (hg : r[k]? = some x) (hx : x = 0 ∨ x = 1) : (r.take (k + 1)).all (fun x => decide (x = 0) || decide (x = 1)) = true := by
  rw [take_at hg, List.all_append, h]
  rcases hx with rfl | rfl <;> rfl
theorem no01 {r : List Int} {k : Nat} {x : Int} (hg : r[k]? = some x) (h0 : x ≠ 0) (h1 : x ≠ 1) : r.all (fun x => decide (x = 0) || decide (x = 1)) = false := by
  cases hb : r.all (fun x => decide (x = 0) || decide (x = 1))
  · rfl
  · have := List.all_eq_true.1 hb x (List.mem_of_getElem? hg)
    simp [h0, h1] at this

set_option maxHeartbeats 1000000 in
theorem areAnswers_any (A : Option Addr) (m c : Nat) (r : List Int) (n : Nat) (w : World) (hR : Ints w A r) (hm : r.length = m) (hmax : m ≤ maxLen) :
    Calls Try.prog 82 #[.slice A m c, .int .i64 (n : Int)] w fun e w' => e = .returned (.bool (rowB n r)) ∧ w = w' := by
  have Hm := Lib.hid hm
  have h63 : (m : Int) ≤ 9223372036854775807 := by unfold maxLen at hmax; omega
  clear hm hmax
  go_enter Try.func82, Try.ntmps82
  go_wp2
  go_loop [6, 9] (fun _ i => ∃ k : Nat, k ≤ m ∧ i = .int .i64 k ∧ (r.take k).all (fun x => decide (x = 0) || decide (x = 1)) = true) (fun _ i => m - (intOf i).toNat)
  case atStart => exact ⟨0, Nat.zero_le _, rfl, rfl⟩
  case round =>
    obtain ⟨k, hk, rfl, hall⟩ := hrel
    have HA := Lib.hid hall
    clear hall
    by_cases hlt : k < m
    · obtain ⟨b, o, x, rfl, hbl, hg, hc⟩ := hR.at_ (k := k) (by rw [Hm.out]; exact hlt)
      have HG := Lib.hid hg
      have hki : (k : Int) < (m : Int) := by omega
      clear hg
      by_cases h0 : x = 0
      · subst h0
        go_wp2
        go_round
        case rel => exact ⟨k + 1, by omega, by go_num, all01 HA.out HG.out (.inl rfl)⟩
        case measure => simp [intOf]; omega
      · have h0' : (x != 0) = true := by simpa using h0
        by_cases h1 : x = 1
        · subst h1
          go_wp2
          go_round
          case rel => exact ⟨k + 1, by omega, by go_num, all01 HA.out HG.out (.inr rfl)⟩
          case measure => simp [intOf]; omega
        · have h1' : (x != 1) = true := by simpa using h1
          have HN := Lib.hid (no01 HG.out h0 h1)
          go_wp2
          go_ret
          exact ⟨by unfold rowB; rw [HN.out]; rfl, rfl⟩
    · obtain rfl : k = m := by omega
      have HX : Hid (r.all (fun x => decide (x = 0) || decide (x = 1)) = true) := by
        have := HA.out
        rw [List.take_of_length_le (by rw [Hm.out]; omega)] at this
        exact this
      clear HA
      by_cases he : k = n
      · subst he
        go_wp2
        go_ret
        exact ⟨by unfold rowB; rw [HX.out, Hm.out]; simp, rfl⟩
      · have he' : ¬ (k : Int) = (n : Int) := by omega
        go_wp2
        go_ret
        exact ⟨by unfold rowB; rw [HX.out, Hm.out]; simp [he, he'], rfl⟩
theorem isCount_any (n : Nat) (w : World) : Calls Try.prog 81 #[.int .i64 (n : Int)] w fun e w' => e = .returned (.bool (decide (1 ≤ n ∧ n ≤ 7))) ∧ w = w' := by
  by_cases h1 : 1 ≤ n
  · by_cases h7 : n ≤ 7
    · have h1' : (1 : Int) ≤ (n : Int) := by omega
      have h7' : (n : Int) ≤ 7 := by omega
      go_enter Try.func81, Try.ntmps81
      go_wp2
      go_ret
      exact ⟨by simp [h1, h7], rfl⟩
    · have h1' : (1 : Int) ≤ (n : Int) := by omega
      have h7' : ¬ (n : Int) ≤ 7 := by omega
      go_enter Try.func81, Try.ntmps81
      go_wp2
      go_ret
      exact ⟨by simp, rfl⟩
  · have h1' : ¬ (1 : Int) ≤ (n : Int) := by omega
    go_enter Try.func81, Try.ntmps81
    go_wp2
    go_ret
    exact ⟨by simp, rfl⟩
end Go.Proofs.Ytahkihifgafbnaa
