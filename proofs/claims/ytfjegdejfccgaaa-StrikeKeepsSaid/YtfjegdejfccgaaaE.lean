/- slices.Grow and slices.Concat at tables; Long, many. -/
import Derived.Test.YtfjegdejfccgaaaD
import Derived.Lib.AppendZeros
namespace Go.Proofs.Ytfjegdejfccgaaa
open Go.RowKit

theorem info1T : (Try.prog.info? 28).map (fun i => (i.zero, i.size, i.bytes)) = some (some (.slice none 0 0), 1, 24) := by kernel_rfl
/-- A new table with room. -/
def Room (w : World) (e : Ending) (w' : World) : Prop := ∃ cap, e = .returned (.slice (some ⟨w.heap.size, 0, none⟩) 0 cap) ∧ Bel w w' ∧ OwnTV w.heap.size w' (.slice (some ⟨w.heap.size, 0, none⟩) 0 cap) [] []
set_option maxRecDepth 100000 in
theorem grow_any (n : Nat) (w : World) (h1 : 1 ≤ n) (hn : n ≤ 100) :
    Calls Try.prog 126 #[.slice none 0 0, .int .i64 (n : Int)] w (Room w) := by
  obtain ⟨i0, hi, hz0, hz1, hz2⟩ := info_parts info1T
  have hr : ∀ ty, (Builtin.append_ #[22, 3] ty #[.slice none 0 0, .int .i64 (n : Int)]).run Try.prog w = _ := fun ty =>
    Lib.run_append_nil_zeros (P := Try.prog) w 22 3 ty 28 i0 (.slice none 0 0) .i64 .i64 Try.underlying22 Try.underlying3 hi hz0 n (by omega) (by rw [hz1]; decide) (by omega) (by rw [hz2]; omega)
  have hge := grownCap_ge w n 0 28
  have hle := grownCap_le_maxLen w n 0 28 (by unfold maxLen; omega)
  obtain ⟨G, hG⟩ : ∃ G, G = grownCap w n 0 28 := ⟨_, rfl⟩
  obtain ⟨cs, hcs⟩ : ∃ cs, cs = Builtin.zeroCells (Value.slice none 0 0).cells n ++ Builtin.zeroCells (Value.slice none 0 0).cells (G - n) := ⟨_, rfl⟩
  have hsz : cs.size = G := by rw [hcs, Array.size_append, size_zeroCells, size_zeroCells]; simp [Value.cells]; omega
  rw [← hG] at hr hge hle
  rw [← hcs] at hr
  have hn0 : (0 : Int) < (n : Int) := by omega
  have hG63 : (G : Int) ≤ 9223372036854775807 := by unfold maxLen at hle; omega
  have HLE := Lib.hid hle
  have HSZ := Lib.hid hsz
  clear hG hcs hsz hle
  go_enter Try.func126, Try.ntmps126
  go_wp2_with (at_builtin; refine Lib.wpList_append_run _ rfl _ _ _ _ rfl _ _ rfl rfl _ _ (hr _) ?_)
  go_ret
  have ho : ((w.drew).alloc (.cells cs 28)).ownsRow w.heap.size 28 1 (.slice (some ⟨w.drew.heap.size, 0, none⟩) 0 G) 0 [] := World.ownsRow_made w.drew cs G (Nat.le_refl _) HLE.out (by rw [HSZ.out, Nat.mul_one])
  exact ⟨G, rfl, by (repeat (first | exact Bel.refl _ | assumption | refine Bel.drew ?_ | refine Bel.drewN ?_ _ | refine Bel.alloc ?_ _ | refine Bel.setCell ?_ (by first | omega | (simp; done) | (simp; omega) | (simp at *; omega)) _ | refine Bel.trans ?_ (by assumption))), ho, rfl, fun j ns hj => by simp at hj⟩
end Go.Proofs.Ytfjegdejfccgaaa
