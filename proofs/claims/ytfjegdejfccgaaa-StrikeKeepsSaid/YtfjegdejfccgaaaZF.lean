/- Clones of lines. -/
import Derived.Test.YtfjegdejfccgaaaZE
namespace Go.Proofs.Ytfjegdejfccgaaa
open Go.RowKit

theorem info6L : (Try.prog.info? 79).map (fun i => (i.zero, i.size, i.bytes)) = some (some (.agg #[.int .i64 0, .int .i64 0, .int .i64 0, .int .i64 0, .int .i64 0, .int .i64 0]), 6, 48) := by kernel_rfl
/-- The cells of some lines. -/
def celL (F : Nat → Nat → Int) (m : Nat) : List Value := (List.range (m * 6)).map fun p => .int .i64 (F (p / 6) (p % 6))
theorem celL_len (F : Nat → Nat → Int) (m : Nat) : (celL F m).length = m * 6 := by simp [celL]
theorem celL_at {F : Nat → Nat → Int} {m p : Nat} {u : Value} (h : (celL F m)[p]? = some u) : p < m * 6 ∧ u = .int .i64 (F (p / 6) (p % 6)) := by
  unfold celL at h
  rw [List.getElem?_map, Option.map_eq_some_iff] at h
  obtain ⟨i, hi, rfl⟩ := h
  obtain ⟨hl, e⟩ := List.getElem?_eq_some_iff.1 hi
  simp at hl e
  subst e
  exact ⟨hl, rfl⟩
theorem celL_get (F : Nat → Nat → Int) {m p : Nat} (h : p < m * 6) : (celL F m)[p]? = some (.int .i64 (F (p / 6) (p % 6))) := by
  unfold celL
  rw [List.getElem?_map, List.getElem?_range h]
  rfl
theorem celL_one (F : Nat → Nat → Int) (m : Nat) : ∀ u ∈ celL F m, u.oneCell' = true := by
  intro u hu
  obtain ⟨i, _, rfl⟩ := List.mem_map.1 hu
  rfl
theorem celL_congr {F G : Nat → Nat → Int} {m : Nat} (h : ∀ j i, j < m → i < 6 → F j i = G j i) : celL F m = celL G m := by
  unfold celL
  refine List.map_congr_left fun p hp => ?_
  rw [h (p / 6) (p % 6) (by have := List.mem_range.1 hp; omega) (by omega)]
theorem mat_own {w : World} {base g m n cap e : Nat} {F : Nat → Nat → Int} (h : w.ownsRow base e 6 (.slice (some ⟨g, 0, none⟩) n cap) m (celL F m)) (hn : n = m) : Mat w g m F := by
  subst hn
  refine ⟨(World.ownsRow.lt h g rfl).2, fun i => World.ownsRow.frozenAt h i, fun j i hj hi => ?_⟩
  have hp : j * 6 + i < n * 6 := by omega
  have := World.ownsRow.cells (g := g) h rfl (j * 6 + i) _ (celL_get F hp)
  rw [Go.Addr.add_mid, Nat.zero_add, show (j * 6 + i) / 6 = j by omega, show (j * 6 + i) % 6 = i by omega] at this
  exact this
theorem Mat.news {w : World} {g m : Nat} {F : Nat → Nat → Int} (h : Mat w g m F) : ∀ p u, (celL F m)[p]? = some u → w.cell? ((⟨g, 0, none⟩ : Addr).add p) = some u := by
  intro p u hu
  obtain ⟨hp, rfl⟩ := celL_at hu
  rw [Go.Addr.add_mid, Nat.zero_add]
  have := h.cells (p / 6) (p % 6) (by omega) (by omega)
  rw [show p / 6 * 6 + p % 6 = p by omega] at this
  exact this
/-- Own lines. -/
def OwnLn (base : Nat) (w : World) (v : Value) (m : Nat) (F : Nat → Nat → Int) : Prop := w.ownsRow base 79 6 v m (celL F m)
/-- New lines. -/
def NewL (w : World) (m : Nat) (F : Nat → Nat → Int) (e : Ending) (w' : World) : Prop := ∃ g cap, e = .returned (.slice (some ⟨g, 0, none⟩) m cap) ∧ Bel w w' ∧ m ≤ cap ∧ cap ≤ maxLen ∧ OwnLn w.heap.size w' (.slice (some ⟨g, 0, none⟩) m cap) m F
theorem litL (w : World) (g base : Nat) (hg : g = w.heap.size) (hb : base ≤ g) : (w.alloc (.cells #[] 79)).ownsRow base 79 6 (.slice (some ⟨g, 0, none⟩) 0 0) 0 [] := by
  subst hg
  exact World.ownsRow_lit w #[] 0 hb (by unfold maxLen; omega) rfl
theorem own_cap {w : World} {base e s g n cap : Nat} {xs : List Value} (h : w.ownsRow base e s (.slice (some ⟨g, 0, none⟩) n cap) n xs) : n ≤ cap ∧ cap ≤ maxLen := by
  rcases h.2 with ⟨h', _⟩ | ⟨g', cap', cur, h', _, hg, h1, h2, _⟩
  · cases h'
  · injection h' with h1' h2' h3'
    subst h3'
    exact ⟨h1, h2⟩
set_option maxRecDepth 100000 in
set_option maxHeartbeats 1000000 in
theorem cloneL_any (g m c : Nat) (F : Nat → Nat → Int) (w : World) (hM : Mat w g m F) (h1 : 1 ≤ m) (hm : m ≤ 20) :
    Calls Try.prog 113 #[.slice (some ⟨g, 0, none⟩) m c] w (NewL w m F) := by
  obtain ⟨i0, hi, hz0, hz1, hz2⟩ := info_parts info6L
  have hnil := fun (w : World) (a : Option Addr) (l c : Nat) => Go.run_eql_slice_nil (P := Try.prog) w 68 79 a l c Try.underlying68
  have hX3 := Lib.hid (show 0 + m ≤ maxLen by unfold maxLen; omega)
  have hX4 := Lib.hid (show (0 + m) * 48 ≤ 140737488355328 by omega)
  have hnews := Lib.hid ((hM.bel ((Bel.refl w).alloc (.cells #[] 79))).news)
  go_enter Try.func113, Try.ntmps113
  go_wp2_with (at_builtin; go_loud (refine wpList_append_lies _ rfl (.tmp 5) (.tmp 6) 68 rfl w.heap.size 79 i0 _ 6 48 Try.underlying68 hi hz0 hz1 hz2 rfl (by decide) _ 0 [] (by rfl) (litL w w.heap.size w.heap.size rfl (Nat.le_refl _)) ⟨g, 0, none⟩ m c (celL F m) (by rfl) (celL_len F m) hnews.out (celL_one F m) (by omega) hX3.out hX4.out (by simp) _ rfl ?_); intro g3 cap3 w3'; rw [show 0 + m = m from Nat.zero_add m, List.nil_append]; intro hown3 hgr3 hat3 hlt3)
  have hB3 := grown_own (w := w) ((Bel.refl w).alloc _) (litL w w.heap.size w.heap.size rfl (Nat.le_refl _)) (Nat.le_refl _) hgr3
  have HO := Lib.hid hown3
  clear hown3 hgr3 hat3 hlt3
  go_ret
  exact ⟨g3, cap3, rfl, hB3, (own_cap HO.out).1, (own_cap HO.out).2, HO.out⟩
end Go.Proofs.Ytfjegdejfccgaaa
