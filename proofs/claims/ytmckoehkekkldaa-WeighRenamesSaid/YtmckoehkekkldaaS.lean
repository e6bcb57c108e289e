/- The known answers. -/
import Derived.Test.YtmckoehkekkldaaR
namespace Go.Proofs.Ytmckoehkekkldaa
open Go.RowKit

theorem ints_lit2 {w w' : World} {x y : Int} {t : TypeId} (h : Bel (w.alloc (.cells #[.int .i64 x, .int .i64 y] t)) w') : Ints w' (some ⟨w.heap.size, 0, none⟩) [x, y] := by
  refine Ints.bel (.inr ⟨_, 0, rfl, by simp, fun j v hj => ?_⟩) h
  match j, hj with
  | 0, hj => simp at hj; subst hj; simp
  | 1, hj => simp at hj; subst hj; simp
theorem tab_lit (W : World) (t1 t2 : TypeId) : Tab 0 ((((W.alloc (.cells #[.int .i64 1, .int .i64 0] t1)).alloc (.cells #[.int .i64 (-1), .int .i64 1] t1)).alloc (.cells #[.int .i64 0, .int .i64 (-1)] t1)).alloc (.cells #[.slice (some ⟨W.heap.size, 0, none⟩) 2 2, .slice (some ⟨W.heap.size + 1, 0, none⟩) 2 2, .slice (some ⟨W.heap.size + 1 + 1, 0, none⟩) 2 2] t2)) (some ⟨W.heap.size + 1 + 1 + 1, 0, none⟩) [[1, 0], [-1, 1], [0, -1]] := by
  refine .inr ⟨_, 0, rfl, Nat.zero_le _, by simp, fun j ns hj => ?_⟩
  match j, hj with
  | 0, hj =>
    simp at hj
    subst hj
    exact ⟨_, 2, 2, by go_simp, ints_lit2 (w := W) (by (repeat (first | exact Bel.refl _ | assumption | refine Bel.drew ?_ | refine Bel.drewN ?_ _ | refine Bel.alloc ?_ _ | refine Bel.setCell ?_ (by first | omega | (simp; done) | (simp; omega) | (simp at *; omega)) _ | refine Bel.trans ?_ (by assumption)))), rfl, by decide, fun _ _ _ => Nat.zero_le _⟩
  | 1, hj =>
    simp at hj
    subst hj
    exact ⟨_, 2, 2, by go_simp, ints_lit2 (w := W.alloc _) (by (repeat (first | exact Bel.refl _ | assumption | refine Bel.drew ?_ | refine Bel.drewN ?_ _ | refine Bel.alloc ?_ _ | refine Bel.setCell ?_ (by first | omega | (simp; done) | (simp; omega) | (simp at *; omega)) _ | refine Bel.trans ?_ (by assumption)))), rfl, by decide, fun _ _ _ => Nat.zero_le _⟩
  | 2, hj =>
    simp at hj
    subst hj
    exact ⟨_, 2, 2, by go_simp, ints_lit2 (w := (W.alloc _).alloc _) (by (repeat (first | exact Bel.refl _ | assumption | refine Bel.drew ?_ | refine Bel.drewN ?_ _ | refine Bel.alloc ?_ _ | refine Bel.setCell ?_ (by first | omega | (simp; done) | (simp; omega) | (simp at *; omega)) _ | refine Bel.trans ?_ (by assumption)))), rfl, by decide, fun _ _ _ => Nat.zero_le _⟩
  | j + 3, hj => simp at hj
set_option maxRecDepth 100000 in
set_option maxHeartbeats 1000000 in
theorem known_any (w : World) : Calls Try.prog 34 #[] w fun e w' => e = .returned (.bool true) ∧ Bel w w' := by
  go_enter Try.func34, Try.ntmps34
  go_wp2_with fail
  refine (example_any _).mono ?_
  rintro e w1 ⟨g1, rfl, hb1, hP1⟩
  go_wp2_with fail
  refine (marks_ok _ 3 _ 2 2 exP _ hP1 rfl exP_good).mono ?_
  rintro e w2 ⟨A2, c2, rfl, hb2, hT⟩
  rw [exP_marks] at hT
  go_wp2_with fail
  refine (example_any _).mono ?_
  rintro e w3 ⟨g3, rfl, hb3, hP3⟩
  go_wp2_with fail
  refine (tells_any _ 3 _ 2 2 exP _ hP3 rfl).mono ?_
  rintro e w4 ⟨rfl, hb4⟩
  rw [exP_tells, exP_err]
  go_wp2_with fail
  refine (most_any 2 _).mono ?_
  rintro e w5 ⟨rfl, hw⟩
  subst hw
  have hT4 := (hT.bel hb3).bel hb4
  clear hT hP1 hP3
  go_wp2_with fail
  refine (sameLists_any _ 0 A2 _ 3 c2 3 3 _ _ (hT4.bel (by (repeat (first | exact Bel.refl _ | assumption | refine Bel.drew ?_ | refine Bel.drewN ?_ _ | refine Bel.alloc ?_ _ | refine Bel.setCell ?_ (by first | omega | (simp; done) | (simp; omega) | (simp at *; omega)) _ | refine Bel.trans ?_ (by assumption))))) (tab_lit _ _ _) rfl rfl (by decide)).mono ?_
  rintro e w6 ⟨rfl, hb6⟩
  have hm2 : mostN 2 = 3 := rfl
  have he2 : errM 2 = 0 := rfl
  rw [hm2, he2]
  go_wp2
  go_ret
  exact ⟨rfl, by (repeat (first | exact Bel.refl _ | assumption | refine Bel.drew ?_ | refine Bel.drewN ?_ _ | refine Bel.alloc ?_ _ | refine Bel.setCell ?_ (by first | omega | (simp; done) | (simp; omega) | (simp at *; omega)) _ | refine Bel.trans ?_ (by assumption)))⟩
end Go.Proofs.Ytmckoehkekkldaa
