/- Judging: the program's After. -/
import Derived.Test.YtmklpldmgmjlkaaJI
namespace Go.Proofs.Ytmklpldmgmjlkaa
open Go.RowKit

theorem after_int (a b x y : Int) (yes : Bool) (w : World) (h : inS a b) (h2 : inQ a b x y) :
    Calls Try.prog 65 #[.agg #[.int .i64 a, .int .i64 b], .int .i64 x, .int .i64 y, .bool yes] w fun e w' => e = .returned (.agg #[.int .i64 (aft1 a b x y yes), .int .i64 (aft2 a b x y yes)]) ∧ Bel w w' := by
  obtain ⟨e1, e2, -⟩ := aft_ok (yes := yes) h h2
  rw [e1, e2]
  obtain ⟨a, b, rfl, rfl, ha, hb⟩ := inS_nat h
  obtain ⟨x1, x2, y1, y2⟩ := h2
  obtain ⟨x, rfl⟩ := Int.eq_ofNat_of_zero_le x1
  obtain ⟨y, rfl⟩ := Int.eq_ofNat_of_zero_le y1
  cases yes
  · have := after_no a b x y w (by omega) (by omega) (by omega)
    have k1 : ((a - x : Nat) : Int) = (a : Int) - (x : Int) := by omega
    have k2 : ((b - y + x : Nat) : Int) = (b : Int) - (y : Int) + (x : Int) := by omega
    rw [k1, k2] at this
    exact this
  · have := after_yes a b x y w (by omega) (by omega) (by omega)
    have k2 : ((y + (a - x) : Nat) : Int) = (y : Int) + (a : Int) - (x : Int) := by omega
    rw [k2] at this
    exact this
theorem stored2 {w : World} {g : Nat} {a b x y : Value} (h0 : w.cell? ⟨g, 0, none⟩ = some a) (h1 : w.cell? ⟨g, 1, none⟩ = some b) :
    (w.setCell ⟨g, 0, none⟩ x).cell? ⟨g, 0, none⟩ = some x ∧ ((w.setCell ⟨g, 0, none⟩ x).setCell ⟨g, 1, none⟩ y).cell? ⟨g, 1, none⟩ = some y := by
  refine ⟨World.cell?_setCell_same _ _ _ h0, World.cell?_setCell_same _ _ _ (u := b) ?_⟩
  rw [World.cell?_setCell_other _ _ _ _ (by simp)]; exact h1
/-- What afterOf answers. -/
def AftOf (a b x y : Int) (yes : Bool) (w : World) (e : Ending) (w' : World) : Prop := e = .returned (.tuple #[.agg #[.int .i64 (aft1 a b x y yes), .int .i64 (aft2 a b x y yes)], .int .i64 (errW a b x y)]) ∧ Bel w w'
theorem ret_aft {a b x y u v z : Int} {yes : Bool} (h : aft1 a b x y yes = u ∧ aft2 a b x y yes = v ∧ errW a b x y = z) :
    Ending.returned (.tuple #[.agg #[.int .i64 u, .int .i64 v], .int .i64 z]) = .returned (.tuple #[.agg #[.int .i64 (aft1 a b x y yes), .int .i64 (aft2 a b x y yes)], .int .i64 (errW a b x y)]) := by rw [h.1, h.2.1, h.2.2]
end Go.Proofs.Ytmklpldmgmjlkaa

