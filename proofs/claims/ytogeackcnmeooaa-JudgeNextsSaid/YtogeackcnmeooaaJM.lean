/- Judging: the document's Enough, Need and Bound. -/
import Derived.Test.YtogeackcnmeooaaJL
namespace Go.Proofs.Ytogeackcnmeooaa
open Go.RowKit

def rowL (F : Nat → Nat → Bool) (a : Nat) : List Value := (List.range 33).map fun b => .bool (F a b)
theorem rowL_at (F : Nat → Nat → Bool) (a : Nat) {b : Nat} (hb : b < 33) : (rowL F a)[b]? = some (.bool (F a b)) := by simp [rowL, hb]
theorem tab_row (F : Nat → Nat → Bool) {a : Nat} (ha : a < 33) : List.take 33 (List.drop (a * 33) (tabL F)) = rowL F a := by
  apply List.ext_getElem?
  intro b
  by_cases hb : b < 33
  · rw [List.getElem?_take_of_lt (by omega), List.getElem?_drop, tabL_at F (by omega), rowL_at F a hb, show (a * 33 + b) / 33 = a from by omega, show (a * 33 + b) % 33 = b from by omega]
  · rw [List.getElem?_eq_none (by simp; omega), List.getElem?_eq_none (by simp [rowL]; omega)]
theorem run_index_tab (F : Nat → Nat → Bool) (a : Nat) (ha : a < 33) (w : World) : (Instr.index 77 (.agg (tabL F).toArray) (.int .i64 (a : Int))).run Try.prog w = .ok (.agg (rowL F a).toArray) w := by
  have hi : (Try.prog.info? 76).map (·.size) = some 33 := by kernel_rfl
  have hr := tab_row F ha
  cases hq : Try.prog.info? 76 with
  | none => rw [hq] at hi; cases hi
  | some i =>
    rw [hq] at hi
    simp at hi
    simp [Instr.index, asIntOf, run_underlying Try.underlying77, go_sem, ha, sizeOf, typeInfo, hq, hi]
    exact hr
theorem run_index_row (F : Nat → Nat → Bool) (a b : Nat) (hb : b < 33) (w : World) : (Instr.index 76 (.agg (rowL F a).toArray) (.int .i64 (b : Int))).run Try.prog w = .ok (.bool (F a b)) w := by
  have h1 := rowL_at F a hb
  simp [Instr.index, asIntOf, run_underlying Try.underlying76, go_sem, hb, h1]

theorem rEnough_ok (a b q : Nat) (w : World) (ha : a ≤ 16) (hb : b ≤ 16) (hq : q ≤ 12) :
    Calls Try.prog 32 #[.int .i64 (a : Int), .int .i64 (b : Int), .int .i64 (q : Int)] w fun e w' => e = .returned (.tuple #[.bool (en q a b), .int .i64 0]) ∧ Bel w w' := by
  have HE := Lib.hid (errQ_ok (inS_of ha hb) (show (0 : Int) ≤ (q : Int) by omega) (by omega))
  have HT := Lib.hid (tF_in (n := a + b) (q := q) (Nat.le_refl _))
  obtain ⟨n, hn⟩ : ∃ n, n = a + b := ⟨_, rfl⟩
  have hni : (a : Int) + (b : Int) = (n : Int) := by omega
  have hn32 : n ≤ 32 := by omega
  rw [← hn] at HT
  have hai : (a : Int) ≤ 16 := by omega
  have hbi : (b : Int) ≤ 16 := by omega
  clear hn
  obtain ⟨F, hF⟩ : ∃ F, F = tF n q := ⟨_, rfl⟩
  rw [← hF] at HT
  have HF := Lib.hid hF
  clear hF
  have h1 := run_index_tab F a (by omega)
  have h2 := run_index_row F a b (by omega)
  have HN := Lib.hid hni
  clear hni
  obtain ⟨X, hX⟩ : ∃ X, X = (tabL F).toArray := ⟨_, rfl⟩
  obtain ⟨Y, hY⟩ : ∃ Y, Y = (rowL F a).toArray := ⟨_, rfl⟩
  rw [← hX, ← hY] at h1
  rw [← hY, HT.out] at h2
  have HX := Lib.hid hX
  clear hX hY
  generalize en q a b = v at *
  go_enter Try.func32, Try.ntmps32
  go_wp2_with (go_at_call 60; refine (asked_any _ _ _ _).mono ?_; rintro e w1 ⟨rfl, rfl⟩; rw [HE.out])
  rw [HN.out]
  refine (table_any n q _ hn32 hq).mono ?_
  rintro e w1 ⟨rfl, hb1⟩
  rw [← HF.out, ← HX.out]
  go_wp2
  go_ret2
  exact ⟨rfl, hb1⟩
theorem rEnough_err (a b q : Int) (w : World) (h : ¬ (inS a b ∧ 0 ≤ q ∧ q ≤ 12)) :
    Calls Try.prog 32 #[.int .i64 a, .int .i64 b, .int .i64 q] w fun e w' => e = .returned (.tuple #[.bool false, .int .i64 1]) ∧ Bel w w' := by
  have HE := Lib.hid (errQ_no h)
  clear h
  go_enter Try.func32, Try.ntmps32
  go_wp2_with (go_at_call 60; refine (asked_any _ _ _ _).mono ?_; rintro e w1 ⟨rfl, rfl⟩; rw [HE.out])
  go_ret2
  exact ⟨rfl, Bel.refl _⟩
end Go.Proofs.Ytogeackcnmeooaa
