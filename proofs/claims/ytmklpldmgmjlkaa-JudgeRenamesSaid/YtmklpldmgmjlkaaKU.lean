/- Records: the document's IsNext, walked. -/
import Derived.Test.YtmklpldmgmjlkaaKT
import Derived.Deep.OwnRows
import Derived.Test.YtmklpldmgmjlkaaKH
namespace Go.Proofs.Ytmklpldmgmjlkaa
open Go.RowKit

theorem boolcells (w : World) (ty : TypeId) {w' : World} (h : Bel (w.alloc (.cells #[.bool true, .bool false] ty)) w') : w'.cell? ⟨w.heap.size, 0, none⟩ = some (.bool true) ∧ w'.cell? ⟨w.heap.size, 1, none⟩ = some (.bool false) := by
  refine ⟨?_, ?_⟩ <;> (rw [h.use.1 _ _ (by simp)]; go_simp)
end Go.Proofs.Ytmklpldmgmjlkaa

