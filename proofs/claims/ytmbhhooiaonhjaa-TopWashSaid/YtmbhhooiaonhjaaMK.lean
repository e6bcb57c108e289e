/- A slice of pairs that is changed and cut in place. -/
import Derived.Test.YtmbhhooiaonhjaaMJ
import Derived.Test.YtmbhhooiaonhjaaBE
namespace Go.Proofs.Ytmbhhooiaonhjaa
open Go.RowKit

/-- From place o on the block g holds the pairs l. -/
structure Tail (w : World) (g o : Nat) (l : List (Int × Int)) : Prop where
  lt : g < w.heap.size
  fz : ∀ i, w.frozen? ⟨g, i, none⟩ = false
  cells : ∀ j s m, l[j]? = some (s, m) → w.cell? ⟨g, o + j * 2, none⟩ = some (.int .i64 s) ∧ w.cell? ⟨g, o + j * 2 + 1, none⟩ = some (.int .i64 m)
section
variable {w w' : World} {g o : Nat} {l : List (Int × Int)}
theorem Tail.of_block (h : Tail w g o l) (hs : w.heap.size ≤ w'.heap.size) (hb : w'.heap[g]? = w.heap[g]?) : Tail w' g o l := by
  have hc : ∀ i, w'.cell? ⟨g, i, none⟩ = w.cell? ⟨g, i, none⟩ := fun i => by simp [World.cell?, hb]
  have hf : ∀ i, w'.frozen? ⟨g, i, none⟩ = w.frozen? ⟨g, i, none⟩ := fun i => by simp [World.frozen?, hb]
  exact ⟨Nat.lt_of_lt_of_le h.lt hs, fun i => by rw [hf]; exact h.fz i, fun j s m hj => by rw [hc, hc]; exact h.cells j s m hj⟩
theorem Tail.bel (h : Tail w g o l) (hb : Bel w w') : Tail w' g o l := h.of_block hb.size (hb.block g h.lt)
theorem Tail.far (h : Tail w g o l) {p : Addr} (hp : g ≠ p.block) (u : Value) : Tail (w.setCell p u) g o l :=
  h.of_block (by simp [World.setCell]) (Below.heap_setCell _ _ _ _ hp)
theorem Tail.prs (h : Tail w g o l) : Prs w (some ⟨g, o, none⟩) l := .inr ⟨g, o, rfl, h.lt, h.cells⟩
theorem Tail.head {s m : Int} (h : Tail w g o ((s, m) :: l)) : w.cell? ⟨g, o, none⟩ = some (.int .i64 s) ∧ w.cell? ⟨g, o + 1, none⟩ = some (.int .i64 m) := by simpa using h.cells 0 s m rfl
theorem Tail.cut {s m : Int} (h : Tail w g o ((s, m) :: l)) : Tail w g (o + 2) l :=
  ⟨h.lt, h.fz, fun j s' m' hj => by
    have := h.cells (j + 1) s' m' (by simpa using hj)
    rw [show o + 2 + j * 2 = o + (j + 1) * 2 from by omega]
    exact this⟩
theorem Tail.nil (h : Tail w g o l) (o' : Nat) : Tail w g o' [] := ⟨h.lt, h.fz, fun j s m hj => by simp at hj⟩
theorem Tail.set_ {s m : Int} (h : Tail w g o ((s, m) :: l)) (y : Int) : Tail (w.setCell ⟨g, o + 1, none⟩ (.int .i64 y)) g o ((s, y) :: l) := by
  obtain ⟨h0, h1⟩ := h.head
  refine ⟨by simpa [World.setCell] using h.lt, fun i => by rw [World.frozen?_setCell]; exact h.fz i, fun j s' m' hj => ?_⟩
  cases j with
  | zero =>
    simp at hj
    obtain ⟨rfl, rfl⟩ := hj
    simp only [Nat.zero_mul, Nat.add_zero]
    exact ⟨by rw [World.cell?_setCell_other _ _ _ _ (by simp)]; exact h0, World.cell?_setCell_same _ _ _ h1⟩
  | succ j =>
    have := h.cells (j + 1) s' m' (by simpa using hj)
    rw [World.cell?_setCell_other _ _ _ _ (by simp <;> omega), World.cell?_setCell_other _ _ _ _ (by simp <;> omega)]
    exact this
theorem Row.tail {n : Nat} (h : Row w g (n * 2) (n * 2) (flat2 l)) (hn : l.length = n) : Tail w g 0 l := by
  refine ⟨h.lt, h.fz, fun j s m hj => ?_⟩
  have hl : j < l.length := (List.getElem?_eq_some_iff.1 hj).1
  obtain ⟨e1, e2⟩ := flat2_at hj
  have c1 := h.cells (j * 2) (by omega)
  have c2 := h.cells (j * 2 + 1) (by omega)
  rw [e1] at c1
  rw [e2] at c2
  simpa using ⟨c1, c2⟩
end

/-- What without leaves. -/
def Wo (w : World) (g o : Nat) (s m x : Int) (r : List (Int × Int)) (e : Ending) (w' : World) : Prop :=
  ∃ o' k, e = .returned (.slice (some ⟨g, o', none⟩) k k) ∧ k = (wo x ((s, m) :: r)).length ∧ w' = w.setCell ⟨g, o + 1, none⟩ (.int .i64 (m - x)) ∧ Tail w' g o' (wo x ((s, m) :: r))

set_option maxHeartbeats 400000 in
theorem without_any (g o n : Nat) (s m x : Int) (r : List (Int × Int)) (w : World) (hT : Tail w g o ((s, m) :: r)) (hn : n = r.length + 1) (h12 : n ≤ 12) (x0 : 0 ≤ x) (hx : x ≤ m) (hm : m ≤ 100) :
    Calls Try.prog 59 #[.slice (some ⟨g, o, none⟩) n n, .int .i64 x] w (Wo w g o s m x r) := by
  obtain ⟨c0, c1⟩ := hT.head
  have hfz := hT.fz (o + 1)
  have hlt := hT.lt
  have HT := Lib.hid (hT.set_ (m - x))
  have HN := Lib.hid hn
  have hn1 : 1 ≤ n := by omega
  clear hn
  by_cases he : m - x = 0
  · have HW := Lib.hid (show wo x ((s, m) :: r) = r by rw [wo_cons, if_pos he])
    have hT0 := HT.out
    rw [he] at hT0
    have HT := Lib.hid hT0
    clear hT0
    unfold Wo
    rw [he]
    by_cases h1 : n = 1
    · subst h1
      have HR := Lib.hid (show r = [] from List.eq_nil_of_length_eq_zero (by have := HN.out; omega))
      go_enter Try.func59, Try.ntmps59
      go_wp2
      go_ret
      exact ⟨o, 0, rfl, by rw [HW.out, HR.out]; rfl, rfl, by rw [HW.out, HR.out]; exact HT.out.nil o⟩
    · have h2 : 1 < n := by omega
      go_enter Try.func59, Try.ntmps59
      go_wp2
      go_ret
      exact ⟨o + 2, n - 1, rfl, by rw [HW.out, HN.out]; rfl, rfl, by rw [HW.out]; exact HT.out.cut⟩
  · have HW := Lib.hid (show wo x ((s, m) :: r) = (s, m - x) :: r by rw [wo_cons, if_neg he])
    have hbz : (m - x == 0) = false := by simpa using he
    go_enter Try.func59, Try.ntmps59
    go_wp2
    go_ret
    exact ⟨o, n, rfl, by rw [HW.out, HN.out]; rfl, rfl, by rw [HW.out]; exact HT.out⟩
end Go.Proofs.Ytmbhhooiaonhjaa

