/- What the law asks of the known folds comes out; errors of Times. -/
import Derived.Test.YthjjpmcefiddmaaL
namespace Go.Proofs.Ythjjpmcefiddmaa
open Go.RowKit

attribute [local go_sem] Oper.semAt_some

set_option maxRecDepth 100000 in
set_option maxHeartbeats 1000000 in
theorem times_err (n k : Int) (w : World) (hE : eK n k ≠ 0) : Calls Try.prog 26 #[.int .i64 n, .int .i64 k] w fun e w' => e = .returned (.tuple #[.int .i64 0, .int .i64 1]) ∧ w = w' := by
  have HE := Lib.hid (eK_one hE)
  clear hE
  go_enter Try.func26, Try.ntmps26
  go_wp2_with fail
  refine (validateKind_any n k _).mono ?_
  rintro e w1 ⟨rfl, rfl⟩
  rw [HE.out]
  go_wp2
  exact bodyPost_ret (v := .tuple #[.int .i64 0, .int .i64 1]) (by simp [results, Try.results26, go_sem]) rfl ⟨rfl, rfl⟩
theorem ints6 {w : World} {g : Nat} {a b c d e f : Int} (h0 : w.cell? ⟨g, 0, none⟩ = some (.int .i64 a)) (h1 : w.cell? ⟨g, 1, none⟩ = some (.int .i64 b)) (h2 : w.cell? ⟨g, 2, none⟩ = some (.int .i64 c)) (h3 : w.cell? ⟨g, 3, none⟩ = some (.int .i64 d)) (h4 : w.cell? ⟨g, 4, none⟩ = some (.int .i64 e)) (h5 : w.cell? ⟨g, 5, none⟩ = some (.int .i64 f)) (hl : g < w.heap.size) : Ints w (some ⟨g, 0, none⟩) [a, b, c, d, e, f] := by
  refine .inr ⟨g, 0, rfl, hl, fun j v hj => ?_⟩
  match j, hj with
  | 0, hj => simp at hj; subst hj; exact h0
  | 1, hj => simp at hj; subst hj; exact h1
  | 2, hj => simp at hj; subst hj; exact h2
  | 3, hj => simp at hj; subst hj; exact h3
  | 4, hj => simp at hj; subst hj; exact h4
  | 5, hj => simp at hj; subst hj; exact h5
  | j + 6, hj => simp at hj
theorem seg6 {w : World} {g : Nat} (h : Ints w (some ⟨g, 0, none⟩) [0, 1, 2, 3, 4, 5]) : Seg w g 0 (2 * 3) (fun q => ([0, 1, 2, 3, 4, 5] : List Int).getD q 0) := by
  obtain ⟨b, o, e, hS⟩ := Seg.of_ints h (by decide)
  injection e with e
  injection e with e1 e2
  subst e1 e2
  exact hS
theorem out6 (w : World) (g : Nat) (h : Ints w (some ⟨g, 0, none⟩) [0, 1, 2, 3, 4, 5]) :
    Calls Try.prog 43 #[.slice (some ⟨g, 0, none⟩) 6 6] w fun e w' => ∃ g', e = .returned (.tuple #[.slice (some ⟨g', 0, none⟩) 6 6, .int .i64 0]) ∧ Bel w w' ∧ Ints w' (some ⟨g', 0, none⟩) [0, 3, 1, 4, 2, 5] := by
  refine (kOut_ok g 0 3 6 _ w (seg6 h) (by omega) (by omega) (by omega)).mono ?_
  rintro e w' ⟨g', rfl, hg, hb, hr⟩
  exact ⟨g', rfl, hb, hr.ints⟩
theorem in6 (w : World) (g : Nat) (h : Ints w (some ⟨g, 0, none⟩) [0, 1, 2, 3, 4, 5]) :
    Calls Try.prog 44 #[.slice (some ⟨g, 0, none⟩) 6 6] w fun e w' => ∃ g', e = .returned (.tuple #[.slice (some ⟨g', 0, none⟩) 6 6, .int .i64 0]) ∧ Bel w w' ∧ Ints w' (some ⟨g', 0, none⟩) [3, 0, 4, 1, 5, 2] := by
  refine (kIn_ok g 0 3 6 _ w (seg6 h) (by omega) (by omega) (by omega)).mono ?_
  rintro e w' ⟨g', rfl, hg, hb, hr⟩
  exact ⟨g', rfl, hb, hr.ints⟩
theorem times8 : timesN 4 1 = 6 := by decide +kernel
theorem known_times (w : World) : Calls Try.prog 26 #[.int .i64 8, .int .i64 1] w fun e w' => e = .returned (.tuple #[.int .i64 6, .int .i64 0]) ∧ Bel w w' := by
  have := times_ok 4 1 w (by omega) (by omega) (by omega)
  rw [times8] at this
  exact this
set_option maxRecDepth 100000 in
set_option maxHeartbeats 1000000 in
theorem known_any (w : World) : Calls Try.prog 23 #[] w fun e w' => e = .returned (.bool true) ∧ Bel w w' := by
  go_enter Try.func23, Try.ntmps23
  go_wp2_with fail
  refine (out6 _ _ (ints6 (by go_simp) (by go_simp) (by go_simp) (by go_simp) (by go_simp) (by go_simp) (by simp))).mono ?_
  rintro e w1 ⟨g1, rfl, hb1, hI1⟩
  have hb01 : Bel w w1 := ((Bel.refl w).alloc _).trans hb1
  clear hb1
  go_wp2_with fail
  refine (in6 _ _ (ints6 (by go_simp) (by go_simp) (by go_simp) (by go_simp) (by go_simp) (by go_simp) (by simp))).mono ?_
  rintro e w2 ⟨g2, rfl, hb2, hI2⟩
  have hb12 : Bel w1 w2 := ((Bel.refl w1).alloc _).trans hb2
  clear hb2
  go_wp2_with fail
  refine (known_times _).mono ?_
  rintro e w3 ⟨rfl, hb3⟩
  go_wp2_with fail
  refine (sameInts_any (some ⟨g1, 0, none⟩) (some ⟨w3.heap.size, 0, none⟩) 6 6 6 6 [0, 3, 1, 4, 2, 5] _ (hI1.bel ((hb12.trans hb3).alloc _)) (ints6 (by go_simp) (by go_simp) (by go_simp) (by go_simp) (by go_simp) (by go_simp) (by simp)) rfl rfl (by unfold maxLen; omega)).mono ?_
  rintro e w4 ⟨rfl, hb4⟩
  have hb34 : Bel w3 w4 := ((Bel.refl w3).alloc _).trans hb4
  clear hb4
  go_wp2_with fail
  refine (sameInts_any (some ⟨g2, 0, none⟩) (some ⟨w4.heap.size, 0, none⟩) 6 6 6 6 [3, 0, 4, 1, 5, 2] _ (hI2.bel ((hb3.trans hb34).alloc _)) (ints6 (by go_simp) (by go_simp) (by go_simp) (by go_simp) (by go_simp) (by go_simp) (by simp)) rfl rfl (by unfold maxLen; omega)).mono ?_
  rintro e w5 ⟨rfl, hb5⟩
  have hb45 : Bel w4 w5 := ((Bel.refl w4).alloc _).trans hb5
  go_wp2
  go_ret
  exact ⟨rfl, ((hb01.trans hb12).trans (hb3.trans hb34)).trans hb45⟩
end Go.Proofs.Ythjjpmcefiddmaa
