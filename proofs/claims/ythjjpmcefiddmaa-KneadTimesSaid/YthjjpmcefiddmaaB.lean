/- Slices of integers that read as lists, that a call makes, that are kept. -/
import Derived.Test.YthjjpmcefiddmaaA
namespace Go.Proofs.Ythjjpmcefiddmaa
open Go.RowKit

/-- The slice at A reads as the integers ns. -/
def Ints (w : World) (A : Option Addr) (ns : List Int) : Prop :=
  ns = [] ∨ ∃ b o, A = some ⟨b, o, none⟩ ∧ b < w.heap.size ∧ ∀ (j : Nat) (v : Int), ns[j]? = some v → w.cell? ⟨b, o + j, none⟩ = some (.int .i64 v)
theorem Ints.bel {w w' : World} {A : Option Addr} {ns : List Int} (h : Ints w A ns) (hb : Bel w w') : Ints w' A ns := by
  rcases h with h | ⟨b, o, rfl, hl, hc⟩
  · exact .inl h
  · refine .inr ⟨b, o, rfl, Nat.lt_of_lt_of_le hl hb.use.2.2, fun j v hj => ?_⟩
    rw [hb.use.1 _ _ hl]
    exact hc j v hj
theorem Ints.at_ {w : World} {A : Option Addr} {ns : List Int} (h : Ints w A ns) {k : Nat} (hk : k < ns.length) :
    ∃ b o v, A = some ⟨b, o, none⟩ ∧ b < w.heap.size ∧ ns[k]? = some v ∧ w.cell? ⟨b, o + k, none⟩ = some (.int .i64 v) := by
  rcases h with rfl | ⟨b, o, rfl, hl, hc⟩
  · simp at hk
  · have hg' : ns[k]? = some ns[k] := by rw [List.getElem?_eq_getElem hk]
    exact ⟨b, o, _, rfl, hl, hg', hc k _ hg'⟩
theorem Ints.none_nil {w : World} {ns : List Int} (h : Ints w none ns) : ns = [] := by
  rcases h with h | ⟨b, o, h, _⟩
  · exact h
  · cases h
theorem drop_at {α : Type} {l : List α} {k : Nat} {x : α} (h : l[k]? = some x) : l.drop k = x :: l.drop (k + 1) := by
  obtain ⟨hk, rfl⟩ := List.getElem?_eq_some_iff.1 h
  rw [List.drop_eq_getElem_cons hk]
theorem take_at {α : Type} {l : List α} {k : Nat} {x : α} (h : l[k]? = some x) : l.take (k + 1) = l.take k ++ [x] := by
  obtain ⟨hk, rfl⟩ := List.getElem?_eq_some_iff.1 h
  rw [List.take_succ_eq_append_getElem hk]
/-- Is the number on the list? -/
def hasB (ns : List Int) (v : Int) : Bool := ns.contains v
theorem hasB_iff {ns : List Int} {v : Int} : hasB ns v = true ↔ v ∈ ns := by simp [hasB]
theorem hasB_false {ns : List Int} {v : Int} (h : ∀ (j : Nat) (u : Int), ns[j]? = some u → u ≠ v) : hasB ns v = false := by
  rw [Bool.eq_false_iff]
  intro e
  obtain ⟨j, hj⟩ := List.mem_iff_getElem?.1 (hasB_iff.1 e)
  exact h j v hj rfl
def Before (ns : List Int) (v : Int) (k : Nat) : Prop := ∀ (j : Nat) (u : Int), j < k → ns[j]? = some u → u ≠ v
set_option maxHeartbeats 400000 in
/-- The first place at which a list holds a number. -/
theorem index_at (A : Option Addr) (n c q : Nat) (ns : List Int) (v : Int) (w : World) (hR : Ints w A ns) (hn : ns.length = n) (hmax : n ≤ maxLen) (hq : ns[q]? = some v) (hB : Before ns v q) :
    Calls Try.prog 55 #[.slice A n c, .int .i64 v] w fun e w' => e = .returned (.int .i64 (q : Int)) ∧ w = w' := by
  have Hn := Lib.hid hn; have HB := Lib.hid hB; have HQ := Lib.hid hq
  have hqn : q < n := by have := (List.getElem?_eq_some_iff.1 hq).1; omega
  have hm : (n : Int) ≤ 9223372036854775807 := by unfold maxLen at hmax; omega
  clear hn hmax hB hq
  go_enter Try.func55, Try.ntmps55
  go_wp2
  go_loop [8] (fun i => ∃ k : Nat, k ≤ q ∧ i = .int .i64 k) (fun i => n - (intOf i).toNat)
  case atStart => exact ⟨0, Nat.zero_le _, rfl⟩
  case round =>
    obtain ⟨k, hk, rfl⟩ := hrel
    obtain ⟨b, o, x, rfl, hbl, hg, hc1⟩ := hR.at_ (k := k) (by rw [Hn.out]; omega)
    by_cases hx : k = q
    · subst hx
      rw [HQ.out] at hg
      injection hg with hg
      subst hg
      go_wp2
      go_ret
      exact ⟨rfl, rfl⟩
    · have hxv : (v == x) = false := by simpa using fun e : v = x => HB.out k x (by omega) hg e.symm
      have hlt : k < n := by omega
      clear hg
      go_wp2
      go_round
      case rel => exact ⟨k + 1, by omega, by go_num⟩
      case measure => simp [intOf]; omega
/-- Block g has m cells, none frozen, and the first k of them hold the numbers f. -/
structure Row (w : World) (g m k : Nat) (f : Nat → Int) : Prop where
  lt : g < w.heap.size
  fz : ∀ i, w.frozen? ⟨g, i, none⟩ = false
  all : ∀ i, i < m → ∃ v, w.cell? ⟨g, i, none⟩ = some v
  cells : ∀ i, i < k → w.cell? ⟨g, i, none⟩ = some (.int .i64 (f i))
section
variable {w w' : World} {g m k : Nat} {f : Nat → Int}
theorem Row.of_block (h : Row w g m k f) (hs : w.heap.size ≤ w'.heap.size) (hb : w'.heap[g]? = w.heap[g]?) : Row w' g m k f := by
  have hc : ∀ j, w'.cell? ⟨g, j, none⟩ = w.cell? ⟨g, j, none⟩ := fun j => World.cell?_of_block (w := w) (a := ⟨g, j, none⟩) hb
  have hf : ∀ j, w'.frozen? ⟨g, j, none⟩ = w.frozen? ⟨g, j, none⟩ := fun j => World.frozen?_of_block (w := w) (a := ⟨g, j, none⟩) hb
  exact ⟨Nat.lt_of_lt_of_le h.lt hs, fun i => (hf i).trans (h.fz i), fun i hi => by rw [hc]; exact h.all i hi, fun i hi => by rw [hc]; exact h.cells i hi⟩
theorem Row.bel (h : Row w g m k f) (hb : Bel w w') : Row w' g m k f := h.of_block hb.size (hb.block g h.lt)
theorem Row.grown (h : Row w g m k f) {r : Nat} (hb : w.grownBy w' (some r)) (hne : g ≠ r) : Row w' g m k f :=
  h.of_block hb.size (hb.block g h.lt (fun e => hne (by injection e)))
theorem Row.drew (h : Row w g m k f) : Row w.drew g m k f := h.of_block (Nat.le_refl _) rfl
theorem Row.drewN (h : Row w g m k f) (n : Nat) : Row (w.drewN n) g m k f := h.of_block (Nat.le_refl _) rfl
theorem Row.alloc (h : Row w g m k f) (o : Obj) : Row (w.alloc o) g m k f := h.of_block (by simp) (Below.heap_alloc _ _ _ h.lt)
theorem Row.far (h : Row w g m k f) {p : Addr} (hp : g ≠ p.block) (u : Value) : Row (w.setCell p u) g m k f :=
  h.of_block (by simp [World.setCell]) (Below.heap_setCell _ _ _ _ hp)
theorem Row.set_ (h : Row w g m k f) {i : Nat} (hi : i = k) (hk : k < m) {x : Int} (hx : x = f k) : Row (w.setCell ⟨g, i, none⟩ (.int .i64 x)) g m (k + 1) f := by
  subst hi hx
  obtain ⟨v, hv⟩ := h.all i hk
  refine ⟨by simpa [World.setCell] using h.lt, fun j => by rw [World.frozen?_setCell]; exact h.fz j, fun j hj => ?_, fun j hj => ?_⟩
  · by_cases e : j = i
    · subst e
      exact ⟨_, World.cell?_setCell_same _ _ _ hv⟩
    · rw [World.cell?_setCell_other _ _ _ _ (by simp <;> omega)]
      exact h.all j hj
  · by_cases e : j = i
    · subst e
      exact World.cell?_setCell_same _ _ _ hv
    · rw [World.cell?_setCell_other _ _ _ _ (by simp <;> omega)]
      exact h.cells j (by omega)
theorem Row.congr (h : Row w g m k f) {f' : Nat → Int} (e : ∀ i, i < k → f' i = f i) : Row w g m k f' :=
  ⟨h.lt, h.fz, h.all, fun i hi => by rw [e i hi]; exact h.cells i hi⟩
theorem Row.new (w : World) (C : Array Value) (t : TypeId) (f : Nat → Int) (hC : ∀ i, i < m → ∃ v, C[i]? = some v) : Row (w.alloc (.cells C t)) w.heap.size m 0 f :=
  ⟨by simp, fun i => by simp, fun i hi => by
    obtain ⟨v, hv⟩ := hC i hi
    exact ⟨v, by rw [World.cell?_alloc_new]; exact hv⟩, fun i hi => by omega⟩
end
/-- 'make([]T, n)': n new elements; what they hold is not said. -/
theorem make_any {P : Program} (t e : TypeId) {size bytes : Nat} (hinfo : (P.info? e).map (fun i => (i.zero.isSome, i.size, i.bytes)) = some (true, size, bytes)) (ht : P.underlying t = some (.slice e))
    (n : Nat) (hb : bytes * n ≤ 281474976710656) (h63 : n ≤ 9223372036854775807) :
    ∃ C : Array Value, (∀ i, i < n * size → ∃ v, C[i]? = some v) ∧ ∀ W : World, (Instr.makeSlice t (.int .i64 (n : Int)) (.int .i64 (n : Int))).run P W = .ok (.slice (some ⟨W.heap.size, 0, none⟩) n n) (W.alloc (.cells C e)) := by
  obtain ⟨i, hi, hzz⟩ := Option.map_eq_some_iff.1 hinfo
  simp only [Prod.mk.injEq] at hzz
  obtain ⟨hz1, hz2, hz3⟩ := hzz
  obtain ⟨z, hz⟩ := Option.isSome_iff_exists.1 hz1
  refine ⟨madeCells z.cells (n * i.size), fun j hj => ?_, fun W => ?_⟩
  · rw [← hz2] at hj
    exact ⟨_, Array.getElem?_eq_getElem (by rw [size_madeCells]; exact hj)⟩
  · have hb' : (i.bytes : Int) * (n : Int) ≤ 281474976710656 := by
      rw [hz3]
      have : ((bytes * n : Nat) : Int) ≤ 281474976710656 := by omega
      rwa [Int.natCast_mul] at this
    have hr := run_make (P := P) W t e i z ht hi hz .i64 .i64 n n (by omega) (Int.le_refl _) hb' (by omega)
    simpa using hr
theorem infoInt : (Try.prog.info? 3).map (fun i => (i.zero, i.size, i.bytes)) = some (some (.int .i64 0), 1, 8) := by kernel_rfl
theorem Row.whole (w : World) (C : Array Value) (t : TypeId) (m : Nat) (f : Nat → Int) (hC : ∀ i, i < m → C[i]? = some (.int .i64 (f i))) : Row (w.alloc (.cells C t)) w.heap.size m m f :=
  ⟨by simp, fun i => by simp, fun i hi => ⟨_, by rw [World.cell?_alloc_new]; exact hC i hi⟩, fun i hi => by rw [World.cell?_alloc_new]; exact hC i hi⟩
theorem Row.put {w : World} {g m i : Nat} {f : Nat → Int} (h : Row w g m m f) (hi : i < m) (x : Int) : Row (w.setCell ⟨g, i, none⟩ (.int .i64 x)) g m m (fun j => if j = i then x else f j) := by
  obtain ⟨v, hv⟩ := h.all i hi
  refine ⟨by simpa [World.setCell] using h.lt, fun j => by rw [World.frozen?_setCell]; exact h.fz j, fun j hj => ?_, fun j hj => ?_⟩
  · by_cases e : j = i
    · subst e
      exact ⟨_, World.cell?_setCell_same _ _ _ hv⟩
    · rw [World.cell?_setCell_other _ _ _ _ (by simp <;> omega)]
      exact h.all j hj
  · by_cases e : j = i
    · subst e
      rw [if_pos rfl]
      exact World.cell?_setCell_same _ _ _ hv
    · rw [World.cell?_setCell_other _ _ _ _ (by simp <;> omega), if_neg e]
      exact h.cells j hj
theorem made_int (g i : Nat) (h : i < g) : (madeCells #[.int .i64 0] g)[i]? = some (.int .i64 0) := by simp [madeCells, h, Nat.mod_one]
theorem Row.ints {w : World} {b m : Nat} {f : Nat → Int} (h : Row w b m m f) : Ints w (some ⟨b, 0, none⟩) ((List.range m).map f) := by
  refine .inr ⟨b, 0, rfl, h.lt, fun j v hj => ?_⟩
  simp only [List.getElem?_map, Option.map_eq_some_iff] at hj
  obtain ⟨i, hi, rfl⟩ := hj
  obtain ⟨hl, e⟩ := List.getElem?_eq_some_iff.1 hi
  simp at hl e
  subst e
  rw [Nat.zero_add]
  exact h.cells j hl
/-- The slice v is the call's own, from block 'base' on, and holds the integers l. -/
def Own1 (e base : Nat) (w : World) (v : Value) (l : List Int) : Prop := w.ownsRow base e 1 v l.length (l.map fun x => .int .i64 x)
section
variable {e base : Nat} {w w' : World} {v : Value} {l : List Int}
theorem Own1.nil (e base : Nat) (w : World) : Own1 e base w (.slice none 0 0) [] := World.ownsRow_nil _ _ _ _
theorem Own1.alloc (h : Own1 e base w v l) (o : Obj) : Own1 e base (w.alloc o) v l := World.ownsRow.alloc h o
theorem Own1.bel (h : Own1 e base w v l) (hb : Bel w w') : Own1 e base w' v l :=
  World.ownsRow.kept (row := none) h ⟨hb.os, hb.tape, hb.output, hb.size, fun k hk _ => hb.block k hk⟩ (by
    cases hv : v.ownBlock with
    | none => exact .inl rfl
    | some k => exact .inr (by simp))
theorem Own1.snoc {a : Int} (h : w'.ownsRow base e 1 v (l.length + 1) ((l.map fun x => .int .i64 x) ++ [.int .i64 a])) : Own1 e base w' v (l ++ [a]) := by
  unfold Own1
  have e1 : (l ++ [a]).length = l.length + 1 := by simp
  have e2 : (l ++ [a]).map (fun x => Value.int .i64 x) = (l.map fun x => .int .i64 x) ++ [.int .i64 a] := by simp
  rw [e1, e2]
  exact h
theorem Own1.form (h : Own1 e base w v l) : ∃ A n c, v = .slice A n c ∧ n = l.length ∧ Ints w A l := by
  rcases h.2 with ⟨rfl, h0⟩ | ⟨g, cap, cur, rfl, hb, hg, hn, hm, hs, ht⟩
  · exact ⟨none, 0, 0, rfl, by omega, .inl (List.eq_nil_of_length_eq_zero h0)⟩
  · have hlt := (World.ownsRow.lt h g rfl).2
    have hc := World.ownsRow.cells (g := g) h rfl
    refine ⟨_, _, _, rfl, rfl, .inr ⟨g, 0, rfl, hlt, fun j v hj => ?_⟩⟩
    have := hc j (.int .i64 v) (by rw [List.getElem?_map, hj]; rfl)
    rw [Go.Addr.add_mid] at this
    exact this
end
theorem new1 (w : World) (a : Int) (ty : TypeId) (g : Nat) (hg : g = w.heap.size) : ∀ j u, [Value.int .i64 a][j]? = some u → (w.alloc (.cells #[.int .i64 a] ty)).cell? ((⟨g, 0, none⟩ : Addr).add j) = some u := by
  subst hg
  intro j u hj
  rw [Go.Addr.add_mid]
  match j, hj with
  | 0, hj => simpa using hj
theorem one1 (a : Int) : ∀ u ∈ [Value.int .i64 a], u.oneCell' = true := by
  intro u hu
  simp at hu
  rw [hu]
  rfl
/-- What an append leaves of the rest. -/
theorem after_app {w wr w3 : World} {e base : Nat} {v : Value} {o : Obj} {l : List Int} (hb : Bel w wr) (h0 : w.heap.size ≤ base) (hO : Own1 e base wr v l) (hsz : base ≤ wr.heap.size)
    (hg : (wr.alloc o).grownBy w3 v.ownBlock) : Bel w w3 ∧ base ≤ w3.heap.size ∧ ∀ b, b < base → w3.heap[b]? = wr.heap[b]? := by
  have hr : ∀ i, v.ownBlock = some i → base ≤ i := fun i hi => (World.ownsRow.lt hO i hi).1
  have hbd : Bel w (wr.alloc o) := hb.alloc o
  refine ⟨Below.grown hbd hg hbd.size (fun i hi => Nat.le_trans h0 (hr i hi)), ?_, fun b hb' => ?_⟩
  · have := hg.size
    simp at this
    omega
  · rw [hg.block b (by simp; omega) (fun e => by have := hr b e.symm; omega)]
    exact Below.heap_alloc _ _ _ (by omega)
theorem info1I : (Try.prog.info? 3).map (fun i => (i.zero, i.size, i.bytes)) = some (some (.int .i64 0), 1, 8) := by kernel_rfl
/-- A new slice of integers. -/
def News (w : World) (l : List Int) (e : Ending) (w' : World) : Prop := ∃ A n c, e = .returned (.slice A n c) ∧ n = l.length ∧ Bel w w' ∧ Ints w' A l
/-- The most bytes that a slice may take which came in. -/
def reachN : Nat := 140737488351232
theorem reachN_le {c k : Nat} (h : c * k ≤ reachN) (hk : 0 < k) : c ≤ 140737488351232 ∧ c ≤ maxLen := by
  unfold reachN at h
  have : c ≤ c * k := Nat.le_mul_of_pos_right _ hk
  unfold maxLen
  omega
theorem Ints.take {w : World} {A : Option Addr} {zs : List Int} (h : Ints w A zs) (n : Nat) : Ints w A (zs.take n) := by
  rcases h with rfl | ⟨b, o, rfl, hl, hc⟩
  · exact .inl (by simp)
  · refine .inr ⟨b, o, rfl, hl, fun j v hj => hc j v ?_⟩
    rw [List.getElem?_take] at hj
    split at hj
    · exact hj
    · cases hj
theorem ints_cells {w : World} {a : Addr} {l : List Int} (h : Ints w (some a) l) : ∀ j u, (l.map fun x => Value.int .i64 x)[j]? = some u → w.cell? (a.add j) = some u := by
  intro j u hj
  rcases h with rfl | ⟨b, o, hA, _, hc⟩
  · simp at hj
  · injection hA with hA
    subst hA
    rw [Go.Addr.add_mid]
    simp only [List.getElem?_map, Option.map_eq_some_iff] at hj
    obtain ⟨x, hx, rfl⟩ := hj
    exact hc j x hx
theorem ints_one (l : List Int) : ∀ u ∈ l.map fun x => Value.int .i64 x, u.oneCell' = true := by
  intro u hu
  obtain ⟨x, _, rfl⟩ := List.mem_map.1 hu
  rfl
/-- All cells of a slice of integers, in new memory. -/
def Kept1 (w : World) (zs : List Int) (e : Ending) (w' : World) : Prop :=
  ∃ A n c, e = .returned (.slice A n c) ∧ n = zs.length ∧ Bel w w' ∧ Ints w' A zs ∧ ∀ b o, A = some ⟨b, o, none⟩ → w.heap.size ≤ b ∧ b < w'.heap.size
set_option maxHeartbeats 400000 in
theorem keepInts_any (A : Option Addr) (n c : Nat) (zs : List Int) (w : World) (hR : Ints w A zs) (hc : zs.length = c) (hn : n ≤ c) (h0 : A = none → c = 0) (hmax : c * 8 ≤ 140737488351232) :
    Calls Try.prog 16 #[.slice A n c] w (Kept1 w zs) := by
  obtain ⟨i0, hi, hz0, hz1, hz2⟩ := info_parts info1I
  rcases A with _ | a
  · have hc0 := h0 rfl
    subst hc0
    obtain rfl : n = 0 := by omega
    go_enter Try.func16, Try.ntmps16
    go_wp2
    go_ret
    exact ⟨_, _, _, rfl, hc.symm, by (repeat (first | exact Bel.refl _ | assumption | refine Bel.drew ?_ | refine Bel.drewN ?_ _ | refine Bel.alloc ?_ _ | refine Bel.setCell ?_ (by first | omega | (simp; done) | (simp; omega) | (simp at *; omega)) _ | refine Bel.trans ?_ (by assumption))), .inl (List.eq_nil_of_length_eq_zero hc), fun b o hb => by cases hb <;> exact ⟨Nat.le_refl _, by simp⟩⟩
  · have hcells := ints_cells (hR.bel ((Bel.refl w).alloc (.cells #[] 3)))
    have Hc := Lib.hid hcells; clear hcells
    have hlen : (zs.map fun x => Value.int .i64 x).length = c * 1 := by simp [hc]
    have Hl := Lib.hid hlen; clear hlen
    have HC := Lib.hid hc; clear hc
    have h63 : 0 + c ≤ maxLen := by unfold maxLen; omega
    have hby : (0 + c) * 8 ≤ 140737488355328 := by omega
    have H63 := Lib.hid h63; clear h63
    have Hby := Lib.hid hby; clear hby
    have hcl : (c : Int) ≤ 9223372036854775807 := by omega
    clear hmax
    go_enter Try.func16, Try.ntmps16
    go_wp2_with (at_builtin; go_loud (refine wpList_append_own _ rfl _ _ 22 rfl w.heap.size 3 i0 _ 1 8 Try.underlying22 hi hz0 hz1 hz2 rfl (by decide) _ 0 [] rfl (World.ownsRow_lit w #[] 0 (Nat.le_refl _) (by decide) rfl) a c c (zs.map fun x => .int .i64 x) rfl Hl.out Hc.out (ints_one zs) H63.out Hby.out (by simp) ?_); intro v' w' hown hgr _)
    go_ret
    have hb : Bel w w' := Below.grown ((Bel.refl w).alloc _) hgr (by simp) (fun i hi => by have h : some w.heap.size = some i := hi; injection h with h; omega)
    simp only [Nat.zero_add, List.nil_append] at hown
    rw [← HC.out] at hown
    have hO : Own1 3 w.heap.size w' v' zs := hown
    obtain ⟨A', n', c', rfl, hn', hI⟩ := hO.form
    refine ⟨A', n', c', rfl, hn', hb, hI, fun b o hA => ?_⟩
    subst hA
    exact World.ownsRow.lt hO b rfl
set_option maxHeartbeats 400000 in
theorem keptInts_any (A B : Option Addr) (n c n' c' : Nat) (zs : List Int) (w : World) (hA : Ints w A zs) (hB : Ints w B zs) (hc : zs.length = n) (hc' : zs.length = c') (_hn : n' ≤ c') (h0 : B = none → c' = 0) (hmax : c' ≤ 140737488351232) :
    Calls Try.prog 18 #[.slice A n c, .slice B n' c'] w fun e w' => e = .returned (.bool true) ∧ Bel w w' := by
  obtain rfl : n = c' := by omega
  have Hn := Lib.hid hc; clear hc hc'
  have h63 : (n : Int) ≤ 9223372036854775807 := by omega
  clear hmax
  rcases B with _ | ⟨b1, b2, b3⟩
  · have hn0 := h0 rfl
    subst hn0
    obtain rfl : n' = 0 := by omega
    go_enter Try.func18, Try.ntmps18
    go_wp2
    go_loopw [5] (fun i wr => i = .int .i64 0 ∧ Bel w wr) (fun _ _ => 0)
    case atStart => exact ⟨rfl, Bel.refl _⟩
    case round =>
      obtain ⟨rfl, hb⟩ := hrel
      go_wp2
      go_ret
      exact ⟨rfl, hb⟩
  · clear h0
    go_enter Try.func18, Try.ntmps18
    go_wp2
    go_loopw [5] (fun i wr => ∃ k : Nat, k ≤ n ∧ i = .int .i64 k ∧ Bel w wr) (fun i _ => n - (intOf i).toNat)
    case atStart => exact ⟨0, Nat.zero_le _, rfl, Bel.refl _⟩
    case round =>
      obtain ⟨k, hk, rfl, hb⟩ := hrel
      by_cases hlt : k < n
      · obtain ⟨b, o, s, rfl, hbl, hg, hc1⟩ := (hA.bel hb).at_ (k := k) (by rw [Hn.out]; exact hlt)
        obtain ⟨b', o', s', hB', hbl', hg', hc1'⟩ := (hB.bel hb).at_ (k := k) (by rw [Hn.out]; exact hlt)
        rw [hg] at hg'
        injection hg' with hg'
        subst hg'
        injection hB' with hB'
        injection hB' with e1 e2 e3
        subst e1 e2 e3
        have hkn : (k : Int) < (n : Int) := by omega
        have hk0 : (0 : Int) ≤ (k : Int) := by omega
        clear hg
        go_wp2
        go_quiet (fail)
        go_wp2
        go_roundw
        case rel => exact ⟨k + 1, by omega, by go_num, by (repeat (first | exact Bel.refl _ | assumption | refine Bel.drew ?_ | refine Bel.drewN ?_ _ | refine Bel.alloc ?_ _ | refine Bel.setCell ?_ (by first | omega | (simp; done) | (simp; omega) | (simp at *; omega)) _ | refine Bel.trans ?_ (by assumption)))⟩
        case measure => simp [intOf]; omega
      · obtain rfl : k = n := by omega
        go_wp2
        go_ret
        exact ⟨rfl, hb⟩
theorem run_app0I (W : World) (ty : TypeId) (b0 : Addr) (p : Option Addr) (c : Nat) :
    (Builtin.append_ #[22, 22] ty #[.slice (some b0) 0 0, .slice p 0 c]).run Try.prog W = .ok (.slice (some b0) 0 0) W := by
  obtain ⟨i, hi, _⟩ := Option.map_eq_some_iff.1 info1I
  cases p <;> simp [Builtin.append_, run_underlying Try.underlying22, sizeOf, typeInfo, hi, Builtin.lenOf, Builtin.firstCells, loadCells, loadCellsFrom, storeCells]
/-- An append of no integer, at a step of a region that draws. -/
theorem step_app0I {ops : Array Oper} {o : Oper} {a : Act} {w : World} {K : Act → World → Prop} {Q : Exit → Act → World → Prop} {E : Prop} (hgd : o.guard = none) (s x : Operand)
    (ho : o.op = .call { callee := .builtin .append, args := #[s, x], argTypes := #[22, 22] }) (b0 : Addr) (p : Option Addr) (c : Nat)
    (hs : a.eval s = .slice (some b0) 0 0) (hx : a.eval x = .slice p 0 c) (h : K (a.put o.dst (.slice (some b0) 0 0)) w) :
    if Region.wanted o (yielded ops a.tmps) = true then Oper.wp Try.prog o a w K Q else E := by
  have hw : Region.wanted o (yielded ops a.tmps) = true := by simp [Region.wanted, hgd]
  rw [if_pos hw]
  have hr := run_app0I w o.type b0 p c
  unfold Oper.wp execOp
  simp only [ho, resolve, invoke, builtin, Sem.run_bind, Sem.run_pure, Result.andThen_ok, List.map_toArray, List.map_cons, List.map_nil, hs, hx, hr]
  exact h
theorem Ints.news {w : World} {A : Option Addr} {ns : List Int} (h : Ints w A ns) (hne : ns ≠ []) : ∃ b o, A = some ⟨b, o, none⟩ ∧ b < w.heap.size ∧ ∀ j u, (ns.map fun x => Value.int .i64 x)[j]? = some u → w.cell? ((⟨b, o, none⟩ : Addr).add j) = some u := by
  rcases h with h | ⟨b, o, rfl, hl, hc⟩
  · exact absurd h hne
  · refine ⟨b, o, rfl, hl, fun j u hj => ?_⟩
    simp only [List.getElem?_map, Option.map_eq_some_iff] at hj
    obtain ⟨v, hv, rfl⟩ := hj
    rw [Go.Addr.add_mid]
    exact hc j v hv
theorem one_map (ns : List Int) : ∀ u ∈ ns.map (fun x => Value.int .i64 x), u.oneCell' = true := by
  intro u hu
  obtain ⟨v, _, rfl⟩ := List.mem_map.1 hu
  rfl
/-- A row of integers in memory, as it is read. -/
theorem ints_row {w : World} {base e g n cap : Nat} {ns : List Int} (h : w.ownsRow base e 1 (.slice (some ⟨g, 0, none⟩) n cap) n (ns.map fun x => .int .i64 x)) : Ints w (some ⟨g, 0, none⟩) ns := by
  have hlt := (World.ownsRow.lt h g rfl).2
  have hc := World.ownsRow.cells (g := g) h rfl
  refine .inr ⟨g, 0, rfl, hlt, fun j v hj => ?_⟩
  have := hc j (.int .i64 v) (by rw [List.getElem?_map, hj]; rfl)
  rw [Go.Addr.add_mid] at this
  exact this
theorem ownsRow_bel {w w' : World} {base e size n : Nat} {v : Value} {xs : List Value} (h : w.ownsRow base e size v n xs) (hb : Bel w w') : w'.ownsRow base e size v n xs :=
  World.ownsRow.kept (row := none) h ⟨hb.os, hb.tape, hb.output, hb.size, fun k hk _ => hb.block k hk⟩ (by
    cases hv : v.ownBlock with
    | none => exact .inl rfl
    | some k => exact .inr (by simp))
theorem grown_own {w W W' w3 : World} {base e size n : Nat} {v : Value} {xs : List Value} (hb : Bel w W) (ho : W'.ownsRow base e size v n xs) (h0 : w.heap.size ≤ base) (hg : W.grownBy w3 v.ownBlock) : Bel w w3 :=
  Below.grown hb hg hb.size (fun i hi => Nat.le_trans h0 (World.ownsRow.lt ho i hi).1)
set_option maxRecDepth 100000 in
set_option maxHeartbeats 1000000 in
theorem sameInts_any (A B : Option Addr) (n c m d : Nat) (l : List Int) (w : World) (hA : Ints w A l) (hB : Ints w B l) (hn : l.length = n) (hm : l.length = m) (hmax : n ≤ maxLen) :
    Calls Try.prog 28 #[.slice A n c, .slice B m d] w fun e w' => e = .returned (.bool true) ∧ Bel w w' := by
  obtain rfl : n = m := by omega
  have Hn := Lib.hid hn
  have h63 : (n : Int) ≤ 9223372036854775807 := by unfold maxLen at hmax; omega
  clear hn hm hmax
  go_enter Try.func28, Try.ntmps28
  go_wp2
  go_loopw [5] (fun i wr => ∃ k : Nat, k ≤ n ∧ i = .int .i64 k ∧ Bel w wr) (fun i _ => n - (intOf i).toNat)
  case atStart => exact ⟨0, Nat.zero_le _, rfl, Bel.refl _⟩
  case round =>
    obtain ⟨k, hk, rfl, hb⟩ := hrel
    by_cases hlt : k < n
    · obtain ⟨b, o, s, rfl, hbl, hg, hc1⟩ := (hA.bel hb).at_ (k := k) (by rw [Hn.out]; exact hlt)
      obtain ⟨b', o', s', rfl, hbl', hg', hc1'⟩ := (hB.bel hb).at_ (k := k) (by rw [Hn.out]; exact hlt)
      rw [hg] at hg'
      injection hg' with hg'
      subst hg'
      have hkn : (k : Int) < (n : Int) := by omega
      have hk0 : (0 : Int) ≤ (k : Int) := by omega
      clear hg
      go_wp2
      go_quiet (fail)
      go_wp2
      go_roundw
      case rel => exact ⟨k + 1, by omega, by go_num, by (repeat (first | exact Bel.refl _ | assumption | refine Bel.drew ?_ | refine Bel.drewN ?_ _ | refine Bel.alloc ?_ _ | refine Bel.setCell ?_ (by first | omega | (simp; done) | (simp; omega) | (simp at *; omega)) _ | refine Bel.trans ?_ (by assumption)))⟩
      case measure => simp [intOf]; omega
    · obtain rfl : k = n := by omega
      go_wp2
      go_ret
      exact ⟨rfl, hb⟩
end Go.Proofs.Ythjjpmcefiddmaa
