/- Judging: the program's After. -/
import Derived.Test.YtjcompmmjcefhaaJI
namespace Go.Proofs.Ytjcompmmjcefhaa
open Go.RowKit

theorem after_int (a b x y : Int) (yes : Bool) (w : World) (h : inS a b) (h2 : inQ a b x y) :
    Calls Try.prog 64 #[.agg #[.int .i64 a, .int .i64 b], .int .i64 x, .int .i64 y, .bool yes] w fun e w' => e = .returned (.agg #[.int .i64 (aft1 a b x y yes), .int .i64 (aft2 a b x y yes)]) ∧ Bel w w' := by
  obtain ⟨e1, e2, -⟩ := aft_ok (yes := yes) h h2
  rw [e1, e2]
  obtain ⟨a, b, rfl, rfl, ha, hb⟩ := inS_nat h
  obtain ⟨x1, x2, y1, y2⟩ := h2
  obtain ⟨x, rfl⟩ := Int.eq_ofNat_of_zero_le x1
  obtain ⟨y, rfl⟩ := Int.eq_ofNat_of_zero_le y1
  cases yes
  · have := after_no a b x y w (by omega) (by omega) (by omega)
    have k1 : ((a - x : Nat) : Int) = (a : Int) - (x : Int) := by omega
    have k2 : ((b - y + x : Nat) : Int) = (b : Int) - (y : Int) + (x : Int) := by omega
    rw [k1, k2] at this
    exact this
  · have := after_yes a b x y w (by omega) (by omega) (by omega)
    have k2 : ((y + (a - x) : Nat) : Int) = (y : Int) + (a : Int) - (x : Int) := by omega
    rw [k2] at this
    exact this
theorem stored2 {w : World} {g : Nat} {a b x y : Value} (h0 : w.cell? ⟨g, 0, none⟩ = some a) (h1 : w.cell? ⟨g, 1, none⟩ = some b) :
    (w.setCell ⟨g, 0, none⟩ x).cell? ⟨g, 0, none⟩ = some x ∧ ((w.setCell ⟨g, 0, none⟩ x).setCell ⟨g, 1, none⟩ y).cell? ⟨g, 1, none⟩ = some y := by
  refine ⟨World.cell?_setCell_same _ _ _ h0, World.cell?_setCell_same _ _ _ (u := b) ?_⟩
  rw [World.cell?_setCell_other _ _ _ _ (by simp)]; exact h1
/-- What afterOf answers. -/
def AftOf (a b x y : Int) (yes : Bool) (w : World) (e : Ending) (w' : World) : Prop := e = .returned (.tuple #[.agg #[.int .i64 (aft1 a b x y yes), .int .i64 (aft2 a b x y yes)], .int .i64 (errW a b x y)]) ∧ Bel w w'
theorem ret_aft {a b x y u v z : Int} {yes : Bool} (h : aft1 a b x y yes = u ∧ aft2 a b x y yes = v ∧ errW a b x y = z) :
    Ending.returned (.tuple #[.agg #[.int .i64 u, .int .i64 v], .int .i64 z]) = .returned (.tuple #[.agg #[.int .i64 (aft1 a b x y yes), .int .i64 (aft2 a b x y yes)], .int .i64 (errW a b x y)]) := by rw [h.1, h.2.1, h.2.2]
set_option maxHeartbeats 1000000 in
theorem afterOf_any (a b x y : Int) (yes : Bool) (w : World) :
    Calls Try.prog 51 #[.int .i64 a, .int .i64 b, .int .i64 x, .int .i64 y, .bool yes] w (AftOf a b x y yes w) := by
  by_cases h : inS a b
  · have HE := Lib.hid (errS_ok h)
    by_cases h2 : inQ a b x y
    · have HI := Lib.hid h; have HQ := Lib.hid h2
      obtain ⟨x1, x2, y1, y2⟩ := id h2
      have HZ := Lib.hid (aft_ok (yes := yes) h h2).2.2
      clear h h2
      go_enter Try.func51, Try.ntmps51
      go_wp2_with (go_at_call 38; refine (valS_any _ _ _).mono ?_; rintro e w1 ⟨rfl, rfl⟩; rw [HE.out])
      refine (after_int a b x y yes _ HI.out HQ.out).mono ?_
      rintro e w1 ⟨rfl, hb1⟩
      obtain ⟨u, hu⟩ : ∃ u, u = aft1 a b x y yes := ⟨_, rfl⟩
      obtain ⟨v, hv⟩ : ∃ v, v = aft2 a b x y yes := ⟨_, rfl⟩
      rw [← hu, ← hv]
      have HU := Lib.hid hu; have HV := Lib.hid hv
      clear hu hv
      have hbw : Bel w w1 := by (repeat (first | exact Bel.refl _ | assumption | refine Bel.drew ?_ | refine Bel.drewN ?_ _ | refine Bel.alloc ?_ _ | refine Bel.setCell ?_ (by first | omega | (simp; done) | (simp; omega) | (simp at *; omega)) _ | refine Bel.trans ?_ (by assumption)))
      have hr0 : w1.cell? ⟨w.heap.size, 0, none⟩ = some (.int .i64 0) := (hb1.use.1 _ _ (by simp)).trans (by go_simp)
      have hr1 : w1.cell? ⟨w.heap.size, 1, none⟩ = some (.int .i64 0) := (hb1.use.1 _ _ (by simp)).trans (by go_simp)
      have hf0 : w1.frozen? ⟨w.heap.size, 0, none⟩ = false := (hb1.use.2.1 _ _ (by simp)).trans (by go_simp)
      have hf1 : w1.frozen? ⟨w.heap.size, 1, none⟩ = false := (hb1.use.2.1 _ _ (by simp)).trans (by go_simp)
      clear hb1
      go_wp2
      obtain ⟨q0, q1⟩ := stored2 (x := .int .i64 u) (y := .int .i64 v) hr0 hr1
      refine bodyPost_ret (v := .tuple #[.agg #[.int .i64 u, .int .i64 v], .int .i64 0]) (by simp [results, Try.results51, go_sem, q0, q1]) rfl ⟨ret_aft ⟨HU.out.symm, HV.out.symm, HZ.out⟩, by (repeat (first | exact Bel.refl _ | assumption | refine Bel.drew ?_ | refine Bel.drewN ?_ _ | refine Bel.alloc ?_ _ | refine Bel.setCell ?_ (by first | omega | (simp; done) | (simp; omega) | (simp at *; omega)) _ | refine Bel.trans ?_ (by assumption)))⟩
    · have HA := Lib.hid (aft_e8 (yes := yes) h h2)
      have hn : ¬ (0 ≤ x ∧ x ≤ a ∧ 0 ≤ y ∧ y ≤ b) := h2
      clear h h2
      by_cases hx : 0 ≤ x
      · by_cases hxa : x ≤ a
        · by_cases hy : 0 ≤ y
          · have hyb : b < y := by omega
            clear hn
            (go_enter Try.func51, Try.ntmps51; go_wp2_with (go_at_call 38; refine (valS_any _ _ _).mono ?_; rintro e w1 ⟨rfl, rfl⟩; rw [HE.out]); exact bodyPost_ret (v := .tuple #[.agg #[.int .i64 0, .int .i64 0], .int .i64 _]) (by simp [results, Try.results51, go_sem]) rfl ⟨ret_aft HA.out, by (repeat (first | exact Bel.refl _ | assumption | refine Bel.drew ?_ | refine Bel.drewN ?_ _ | refine Bel.alloc ?_ _ | refine Bel.setCell ?_ (by first | omega | (simp; done) | (simp; omega) | (simp at *; omega)) _ | refine Bel.trans ?_ (by assumption)))⟩)
          · clear hn
            (go_enter Try.func51, Try.ntmps51; go_wp2_with (go_at_call 38; refine (valS_any _ _ _).mono ?_; rintro e w1 ⟨rfl, rfl⟩; rw [HE.out]); exact bodyPost_ret (v := .tuple #[.agg #[.int .i64 0, .int .i64 0], .int .i64 _]) (by simp [results, Try.results51, go_sem]) rfl ⟨ret_aft HA.out, by (repeat (first | exact Bel.refl _ | assumption | refine Bel.drew ?_ | refine Bel.drewN ?_ _ | refine Bel.alloc ?_ _ | refine Bel.setCell ?_ (by first | omega | (simp; done) | (simp; omega) | (simp at *; omega)) _ | refine Bel.trans ?_ (by assumption)))⟩)
        · clear hn
          (go_enter Try.func51, Try.ntmps51; go_wp2_with (go_at_call 38; refine (valS_any _ _ _).mono ?_; rintro e w1 ⟨rfl, rfl⟩; rw [HE.out]); exact bodyPost_ret (v := .tuple #[.agg #[.int .i64 0, .int .i64 0], .int .i64 _]) (by simp [results, Try.results51, go_sem]) rfl ⟨ret_aft HA.out, by (repeat (first | exact Bel.refl _ | assumption | refine Bel.drew ?_ | refine Bel.drewN ?_ _ | refine Bel.alloc ?_ _ | refine Bel.setCell ?_ (by first | omega | (simp; done) | (simp; omega) | (simp at *; omega)) _ | refine Bel.trans ?_ (by assumption)))⟩)
      · clear hn
        (go_enter Try.func51, Try.ntmps51; go_wp2_with (go_at_call 38; refine (valS_any _ _ _).mono ?_; rintro e w1 ⟨rfl, rfl⟩; rw [HE.out]); exact bodyPost_ret (v := .tuple #[.agg #[.int .i64 0, .int .i64 0], .int .i64 _]) (by simp [results, Try.results51, go_sem]) rfl ⟨ret_aft HA.out, by (repeat (first | exact Bel.refl _ | assumption | refine Bel.drew ?_ | refine Bel.drewN ?_ _ | refine Bel.alloc ?_ _ | refine Bel.setCell ?_ (by first | omega | (simp; done) | (simp; omega) | (simp at *; omega)) _ | refine Bel.trans ?_ (by assumption)))⟩)
  · have HE := Lib.hid (errS_no h)
    have HA := Lib.hid (aft_e1 (x := x) (y := y) (yes := yes) h)
    clear h
    (go_enter Try.func51, Try.ntmps51; go_wp2_with (go_at_call 38; refine (valS_any _ _ _).mono ?_; rintro e w1 ⟨rfl, rfl⟩; rw [HE.out]); exact bodyPost_ret (v := .tuple #[.agg #[.int .i64 0, .int .i64 0], .int .i64 _]) (by simp [results, Try.results51, go_sem]) rfl ⟨ret_aft HA.out, by (repeat (first | exact Bel.refl _ | assumption | refine Bel.drew ?_ | refine Bel.drewN ?_ _ | refine Bel.alloc ?_ _ | refine Bel.setCell ?_ (by first | omega | (simp; done) | (simp; omega) | (simp at *; omega)) _ | refine Bel.trans ?_ (by assumption)))⟩)
set_option maxHeartbeats 1000000 in
theorem wAfter_any (a b x y : Int) (yes : Bool) (w : World) :
    Calls Try.prog 29 #[.int .i64 a, .int .i64 b, .int .i64 x, .int .i64 y, .bool yes] w fun e w' => e = .returned (.tuple #[.int .i64 (aft1 a b x y yes), .int .i64 (aft2 a b x y yes), .int .i64 (errW a b x y)]) ∧ Bel w w' := by
  generalize hu : aft1 a b x y yes = u
  generalize hv : aft2 a b x y yes = v
  generalize hz : errW a b x y = z
  have HU := Lib.hid hu; have HV := Lib.hid hv; have HZ := Lib.hid hz
  clear hu hv hz
  go_enter Try.func29, Try.ntmps29
  go_wp2_with fail
  refine (afterOf_any a b x y yes _).mono ?_
  rintro e w1 ⟨rfl, hb1⟩
  rw [HU.out, HV.out, HZ.out]
  go_wp2
  go_quiet (fail)
  go_wp2
  go_ret3
  exact ⟨rfl, by (repeat (first | exact Bel.refl _ | assumption | refine Bel.drew ?_ | refine Bel.drewN ?_ _ | refine Bel.alloc ?_ _ | refine Bel.setCell ?_ (by first | omega | (simp; done) | (simp; omega) | (simp at *; omega)) _ | refine Bel.trans ?_ (by assumption)))⟩
end Go.Proofs.Ytjcompmmjcefhaa

