/- Answers to a case, by the program. -/
import Derived.Test.YtmckoehkekkldaaL
import Derived.ChangeKeysEq
namespace Go.Proofs.Ytmckoehkekkldaa
open Go.RowKit

theorem rowsF_at (P : List Wg) (x i : Nat) (hi : i < 3) : rowsF P (x * 3 + i) = markN P (x : Int) i := by
  unfold rowsF
  rw [show (x * 3 + i) / 3 = x from by omega, show (x * 3 + i) % 3 = i from by omega]
theorem Marks.at_ {w : World} {g n x : Nat} {P : List Wg} (h : Marks w g n P) (hx : x < n) :
    w.cell? ⟨g, x * 3, none⟩ = some (.int .i64 (markN P (x : Int) 0)) ∧ w.cell? ⟨g, x * 3 + 1, none⟩ = some (.int .i64 (markN P (x : Int) 1)) ∧ w.cell? ⟨g, x * 3 + 2, none⟩ = some (.int .i64 (markN P (x : Int) 2)) := by
  have h0 := h.cells (x * 3) (by omega)
  have h1 := h.cells (x * 3 + 1) (by omega)
  have h2 := h.cells (x * 3 + 2) (by omega)
  rw [rowsF_at P x _ (by omega)] at h1 h2
  have h3 := rowsF_at P x 0 (by omega)
  rw [Nat.add_zero] at h3
  rw [h3] at h0
  exact ⟨h0, h1, h2⟩
/-- The answers to a case, while there are three weighings. -/
def ansN (P : List Wg) (x : Int) (y : Int) (i : Nat) : Int := markN P x i * y
theorem ansN_cases (P : List Wg) (x y : Int) (hy : y = 1 ∨ y = -1) (i : Nat) : ansN P x y i = -1 ∨ ansN P x y i = 0 ∨ ansN P x y i = 1 := by
  unfold ansN
  rcases markN_cases P x i with h | h | h <;> rw [h] <;> rcases hy with rfl | rfl <;> decide
set_option maxRecDepth 100000 in
set_option maxHeartbeats 1000000 in
theorem answersTo_any (g n m x : Nat) (y : Int) (P : List Wg) (w : World) (hM : Marks w g n P) (hx : x < n) (hy : y = 1 ∨ y = -1) :
    Calls Try.prog 79 #[.slice (some ⟨g, 0, none⟩) n m, .agg #[.int .i64 (x : Int), .int .i64 y]] w fun e w' => e = .returned (V3 (ansN P (x : Int) y)) ∧ Bel w w' := by
  have hB0 : Bel w ((w.alloc (.cells #[.int .i64 (x : Int), .int .i64 y] 24)).alloc (.cells #[.int .i64 0, .int .i64 0, .int .i64 0] 78)) := by (repeat (first | exact Bel.refl _ | assumption | refine Bel.drew ?_ | refine Bel.drewN ?_ _ | refine Bel.alloc ?_ _ | refine Bel.setCell ?_ (by first | omega | (simp; done) | (simp; omega) | (simp at *; omega)) _ | refine Bel.trans ?_ (by assumption)))
  have hM' : Marks _ g n P := Row.bel hM hB0
  obtain ⟨c0, c1, c2⟩ := hM'.at_ hx
  have hr2 := row3 (w.alloc (.cells #[.int .i64 (x : Int), .int .i64 y] 24)) (fun _ => 0) 78
  rw [World.size_alloc] at hr2
  have HF := Lib.hid (markN_cases P (x : Int))
  have HR := Lib.hid hr2
  have hxn : (x : Int) < (n : Int) := by omega
  have hx0 : (0 : Int) ≤ (x : Int) := by omega
  clear hM hM' hr2
  go_enter Try.func79, Try.ntmps79
  go_wp2
  go_region_with (first | (go_at_call 109; refine (times_any (markN P (x : Int)) y _ HF.out hy).mono ?_; rintro e w1 ⟨rfl, hb1⟩; obtain ⟨d0, d1, d2⟩ := (HR.out.drew.bel hb1).three; have z0 := (HR.out.drew.bel hb1).fz 0; have z1 := (HR.out.drew.bel hb1).fz 1; have z2 := (HR.out.drew.bel hb1).fz 2; have zl := (HR.out.drew.bel hb1).lt))
  all_goals
    have HQ := Lib.hid (fill3 (fun i => markN P (x : Int) i * y) (HR.out.drew.bel hb1))
    have HB := Lib.hid (bel3 (fun i => markN P (x : Int) i * y) (hB0.drew.trans hb1) (g := w.heap.size + 1) (by omega))
    go_wp2
    obtain ⟨e0, e1, e2⟩ := HQ.out.three
    exact bodyPost_ret (v := V3 fun i => markN P (x : Int) i * y) (by simp [results, Try.results79, go_sem, e0, e1, e2]) rfl ⟨rfl, HB.out⟩
/-- Are two marks the same? -/
def eq3 (f h : Nat → Int) : Bool := f 0 == h 0 && (f 1 == h 1 && f 2 == h 2)
theorem run_eq3 (w : World) (a b c x y z : Int) : (Op.equalIn 10000 78 (.agg #[.int .i64 a, .int .i64 b, .int .i64 c]) (.agg #[.int .i64 x, .int .i64 y, .int .i64 z])).run Try.prog w = .ok (a == x && (b == y && c == z)) w := by
  obtain ⟨i, hi, hzz⟩ := Option.map_eq_some_iff.1 infoInt
  have hp : Try.prog.plainKey 3 = true := by kernel_rfl
  have hcells : Try.prog.cellsOf 3 = 1 := by kernel_rfl
  rw [show (10000 : Nat) = 9999 + 1 from rfl, run_equalIn_array w 9999 _ _ Try.underlying78 hi, show List.range 3 = [0, 1, 2] from rfl, hcells]
  have p := fun (xs : Array Value) (off : Nat) (v : Value) (h : xs[off]? = some v) => run_part_plain w hp h
  have e : ∀ a b : Int, (Op.equalIn 9999 3 (.int .i64 a) (.int .i64 b)).run Try.prog w = .ok (a == b) w := fun a b => run_equalIn_int (P := Try.prog) w 9998 3 .i64 .i64 a b Try.underlying3
  simp only [Op.eqItems, Sem.run_bind]
  rw [p _ (0 * 1) (.int .i64 a) (by rfl), Result.andThen_ok, p _ (0 * 1) (.int .i64 x) (by rfl), Result.andThen_ok, e, Result.andThen_ok]
  cases h1 : (a == x)
  · simp
  · rw [Bool.not_true, if_neg (by decide), Sem.run_bind, p _ (1 * 1) (.int .i64 b) (by rfl), Result.andThen_ok, Sem.run_bind, p _ (1 * 1) (.int .i64 y) (by rfl), Result.andThen_ok, Sem.run_bind, e, Result.andThen_ok]
    cases h2 : (b == y)
    · simp
    · rw [Bool.not_true, if_neg (by decide), Sem.run_bind, p _ (2 * 1) (.int .i64 c) (by rfl), Result.andThen_ok, Sem.run_bind, p _ (2 * 1) (.int .i64 z) (by rfl), Result.andThen_ok, Sem.run_bind, e, Result.andThen_ok]
      cases h3 : (c == z) <;> simp
attribute [local go_sem] run_eq3
/-- Do two cases prove that the plan does not tell? -/
def badB (P : List Wg) (x y u v : Int) : Bool := if x = u ∧ y = v then eq3 (ansN P x y) (fun _ => 0) else eq3 (ansN P x y) (ansN P u v)
theorem box_case {w0 w' : World} {a b : Int} {ty : TypeId} (h : Bel (w0.alloc (.cells #[.int .i64 a, .int .i64 b] ty)) w') :
    w'.cell? ⟨w0.heap.size, 0, none⟩ = some (.int .i64 a) ∧ w'.cell? ⟨w0.heap.size, 1, none⟩ = some (.int .i64 b) := by
  constructor <;> (rw [h.use.1 _ _ (by simp)]; simp)
set_option maxRecDepth 100000 in
set_option maxHeartbeats 1000000 in
theorem isBad_any (g n m x u : Nat) (y v : Int) (P : List Wg) (w : World) (hM : Marks w g n P) (hx : x < n) (hu : u < n) (hy : y = 1 ∨ y = -1) (hv : v = 1 ∨ v = -1) :
    Calls Try.prog 98 #[.slice (some ⟨g, 0, none⟩) n m, .agg #[.int .i64 (x : Int), .int .i64 y], .agg #[.int .i64 (u : Int), .int .i64 v]] w fun e w' => e = .returned (.bool (badB P (x : Int) y (u : Int) v)) ∧ Bel w w' := by
  have hB0 : Bel w ((w.alloc (.cells #[.int .i64 (x : Int), .int .i64 y] 24)).alloc (.cells #[.int .i64 (u : Int), .int .i64 v] 24)) := by (repeat (first | exact Bel.refl _ | assumption | refine Bel.drew ?_ | refine Bel.drewN ?_ _ | refine Bel.alloc ?_ _ | refine Bel.setCell ?_ (by first | omega | (simp; done) | (simp; omega) | (simp at *; omega)) _ | refine Bel.trans ?_ (by assumption)))
  have HM : Hid (Marks _ g n P) := Row.bel hM hB0
  clear hM
  by_cases hs : x = u ∧ y = v
  · obtain ⟨rfl, rfl⟩ := hs
    go_enter Try.func98, Try.ntmps98
    go_wp2_with (first | (go_at_call 79; refine (answersTo_any g n m x y P _ ?_ hx hy).mono ?_; exact Row.bel HM.out (by (repeat (first | exact Bel.refl _ | assumption | refine Bel.drew ?_ | refine Bel.drewN ?_ _ | refine Bel.alloc ?_ _ | refine Bel.setCell ?_ (by first | omega | (simp; done) | (simp; omega) | (simp at *; omega)) _ | refine Bel.trans ?_ (by assumption)))); rintro e w1 ⟨rfl, hb1⟩) | (go_at_call 91; refine (blank_any _).mono ?_; rintro e w2 ⟨rfl, hb2⟩))
    go_ret
    exact ⟨ret_bool (by unfold badB eq3; rw [if_pos ⟨rfl, rfl⟩]), by (repeat (first | exact Bel.refl _ | assumption | refine Bel.drew ?_ | refine Bel.drewN ?_ _ | refine Bel.alloc ?_ _ | refine Bel.setCell ?_ (by first | omega | (simp; done) | (simp; omega) | (simp at *; omega)) _ | refine Bel.trans ?_ (by assumption)))⟩
  · have HN : Hid (badB P (x : Int) y (u : Int) v = eq3 (ansN P x y) (ansN P u v)) := by
      show _ = _
      unfold badB
      rw [if_neg (by omega)]
    have Held : Hid (∀ w', Bel ((w.alloc (.cells #[.int .i64 (x : Int), .int .i64 y] 24)).alloc (.cells #[.int .i64 (u : Int), .int .i64 v] 24)) w' →
        w'.cell? ⟨w.heap.size, 0, none⟩ = some (.int .i64 (x : Int)) ∧ w'.cell? ⟨w.heap.size, 1, none⟩ = some (.int .i64 y) ∧ w'.cell? ⟨w.heap.size + 1, 0, none⟩ = some (.int .i64 (u : Int)) ∧ w'.cell? ⟨w.heap.size + 1, 1, none⟩ = some (.int .i64 v)) := fun w' h => by
      obtain ⟨a1, a2⟩ := box_case (((Bel.refl (w.alloc (.cells #[.int .i64 (x : Int), .int .i64 y] 24))).alloc _).trans h)
      obtain ⟨a3, a4⟩ := box_case h
      rw [World.size_alloc] at a3 a4
      exact ⟨a1, a2, a3, a4⟩
    by_cases hxu : x = u
    · subst hxu
      have hyv : ¬ (y = v) := by omega
      have HN2 : Hid (badB P (x : Int) y (x : Int) v = eq3 (ansN P x y) (ansN P x v)) := HN
      clear hs HN
      go_enter Try.func98, Try.ntmps98
      go_wp2_with fail
      go_region_with (first | (go_at_call_of 79 (Value.agg #[Value.int IntKind.i64 (x : Int), Value.int IntKind.i64 y]); refine (answersTo_any g n m x y P _ ?_ hx hy).mono ?_; exact Row.bel HM.out (by (repeat (first | exact Bel.refl _ | assumption | refine Bel.drew ?_ | refine Bel.drewN ?_ _ | refine Bel.alloc ?_ _ | refine Bel.setCell ?_ (by first | omega | (simp; done) | (simp; omega) | (simp at *; omega)) _ | refine Bel.trans ?_ (by assumption)))); rintro e w1 ⟨rfl, hb1⟩; obtain ⟨q1, q2, q3, q4⟩ := Held.out w1 (by (repeat (first | exact Bel.refl _ | assumption | refine Bel.drew ?_ | refine Bel.drewN ?_ _ | refine Bel.alloc ?_ _ | refine Bel.setCell ?_ (by first | omega | (simp; done) | (simp; omega) | (simp at *; omega)) _ | refine Bel.trans ?_ (by assumption))))) | (go_at_call_of 79 (Value.agg #[Value.int IntKind.i64 (x : Int), Value.int IntKind.i64 v]); refine (answersTo_any g n m x v P _ ?_ hu hv).mono ?_; exact Row.bel HM.out (by (repeat (first | exact Bel.refl _ | assumption | refine Bel.drew ?_ | refine Bel.drewN ?_ _ | refine Bel.alloc ?_ _ | refine Bel.setCell ?_ (by first | omega | (simp; done) | (simp; omega) | (simp at *; omega)) _ | refine Bel.trans ?_ (by assumption)))); rintro e w2 ⟨rfl, hb2⟩))
      all_goals
        go_wp2
        go_ret
        exact ⟨ret_bool (by rw [HN2.out]; rfl), by (repeat (first | exact Bel.refl _ | assumption | refine Bel.drew ?_ | refine Bel.drewN ?_ _ | refine Bel.alloc ?_ _ | refine Bel.setCell ?_ (by first | omega | (simp; done) | (simp; omega) | (simp at *; omega)) _ | refine Bel.trans ?_ (by assumption)))⟩
    · have hxu' : ¬ ((x : Int) = (u : Int)) := by omega
      clear hs
      go_enter Try.func98, Try.ntmps98
      go_wp2_with fail
      go_region_with (first | (go_at_call_of 79 (Value.agg #[Value.int IntKind.i64 (x : Int), Value.int IntKind.i64 y]); refine (answersTo_any g n m x y P _ ?_ hx hy).mono ?_; exact Row.bel HM.out (by (repeat (first | exact Bel.refl _ | assumption | refine Bel.drew ?_ | refine Bel.drewN ?_ _ | refine Bel.alloc ?_ _ | refine Bel.setCell ?_ (by first | omega | (simp; done) | (simp; omega) | (simp at *; omega)) _ | refine Bel.trans ?_ (by assumption)))); rintro e w1 ⟨rfl, hb1⟩; obtain ⟨q1, q2, q3, q4⟩ := Held.out w1 (by (repeat (first | exact Bel.refl _ | assumption | refine Bel.drew ?_ | refine Bel.drewN ?_ _ | refine Bel.alloc ?_ _ | refine Bel.setCell ?_ (by first | omega | (simp; done) | (simp; omega) | (simp at *; omega)) _ | refine Bel.trans ?_ (by assumption))))) | (go_at_call_of 79 (Value.agg #[Value.int IntKind.i64 (u : Int), Value.int IntKind.i64 v]); refine (answersTo_any g n m u v P _ ?_ hu hv).mono ?_; exact Row.bel HM.out (by (repeat (first | exact Bel.refl _ | assumption | refine Bel.drew ?_ | refine Bel.drewN ?_ _ | refine Bel.alloc ?_ _ | refine Bel.setCell ?_ (by first | omega | (simp; done) | (simp; omega) | (simp at *; omega)) _ | refine Bel.trans ?_ (by assumption)))); rintro e w2 ⟨rfl, hb2⟩))
      all_goals
        go_wp2
        go_ret
        exact ⟨ret_bool (by rw [HN.out]; rfl), by (repeat (first | exact Bel.refl _ | assumption | refine Bel.drew ?_ | refine Bel.drewN ?_ _ | refine Bel.alloc ?_ _ | refine Bel.setCell ?_ (by first | omega | (simp; done) | (simp; omega) | (simp at *; omega)) _ | refine Bel.trans ?_ (by assumption)))⟩
end Go.Proofs.Ytmckoehkekkldaa
