/- Blocks of integers that the call itself makes. -/
import Derived.Test.YtmbhhooiaonhjaaE
namespace Go.Proofs.Ytmbhhooiaonhjaa
open Go.RowKit

/-- Block g has m cells, none frozen, and the first k of them hold the numbers f. -/
structure Row (w : World) (g m k : Nat) (f : Nat → Int) : Prop where
  lt : g < w.heap.size
  fz : ∀ i, w.frozen? ⟨g, i, none⟩ = false
  all : ∀ i, i < m → ∃ v, w.cell? ⟨g, i, none⟩ = some v
  cells : ∀ i, i < k → w.cell? ⟨g, i, none⟩ = some (.int .i64 (f i))
section
variable {w w' : World} {g m k : Nat} {f : Nat → Int}
theorem Row.of_block (h : Row w g m k f) (hs : w.heap.size ≤ w'.heap.size) (hb : w'.heap[g]? = w.heap[g]?) : Row w' g m k f := by
  have hc : ∀ j, w'.cell? ⟨g, j, none⟩ = w.cell? ⟨g, j, none⟩ := fun j => World.cell?_of_block (w := w) (a := ⟨g, j, none⟩) hb
  have hf : ∀ j, w'.frozen? ⟨g, j, none⟩ = w.frozen? ⟨g, j, none⟩ := fun j => World.frozen?_of_block (w := w) (a := ⟨g, j, none⟩) hb
  exact ⟨Nat.lt_of_lt_of_le h.lt hs, fun i => (hf i).trans (h.fz i), fun i hi => by rw [hc]; exact h.all i hi, fun i hi => by rw [hc]; exact h.cells i hi⟩
theorem Row.bel (h : Row w g m k f) (hb : Bel w w') : Row w' g m k f := h.of_block hb.size (hb.block g h.lt)
theorem Row.grown (h : Row w g m k f) {r : Nat} (hb : w.grownBy w' (some r)) (hne : g ≠ r) : Row w' g m k f :=
  h.of_block hb.size (hb.block g h.lt (fun e => hne (by injection e)))
theorem Row.drew (h : Row w g m k f) : Row w.drew g m k f := h.of_block (Nat.le_refl _) rfl
theorem Row.drewN (h : Row w g m k f) (n : Nat) : Row (w.drewN n) g m k f := h.of_block (Nat.le_refl _) rfl
theorem Row.alloc (h : Row w g m k f) (o : Obj) : Row (w.alloc o) g m k f := h.of_block (by simp) (Below.heap_alloc _ _ _ h.lt)
theorem Row.far (h : Row w g m k f) {p : Addr} (hp : g ≠ p.block) (u : Value) : Row (w.setCell p u) g m k f :=
  h.of_block (by simp [World.setCell]) (Below.heap_setCell _ _ _ _ hp)
theorem Row.set_ (h : Row w g m k f) {i : Nat} (hi : i = k) (hk : k < m) {x : Int} (hx : x = f k) : Row (w.setCell ⟨g, i, none⟩ (.int .i64 x)) g m (k + 1) f := by
  subst hi hx
  obtain ⟨v, hv⟩ := h.all i hk
  refine ⟨by simpa [World.setCell] using h.lt, fun j => by rw [World.frozen?_setCell]; exact h.fz j, fun j hj => ?_, fun j hj => ?_⟩
  · by_cases e : j = i
    · subst e
      exact ⟨_, World.cell?_setCell_same _ _ _ hv⟩
    · rw [World.cell?_setCell_other _ _ _ _ (by simp <;> omega)]
      exact h.all j hj
  · by_cases e : j = i
    · subst e
      exact World.cell?_setCell_same _ _ _ hv
    · rw [World.cell?_setCell_other _ _ _ _ (by simp <;> omega)]
      exact h.cells j (by omega)
theorem Row.congr (h : Row w g m k f) {f' : Nat → Int} (e : ∀ i, i < k → f' i = f i) : Row w g m k f' :=
  ⟨h.lt, h.fz, h.all, fun i hi => by rw [e i hi]; exact h.cells i hi⟩
theorem Row.new (w : World) (C : Array Value) (t : TypeId) (f : Nat → Int) (hC : ∀ i, i < m → ∃ v, C[i]? = some v) : Row (w.alloc (.cells C t)) w.heap.size m 0 f :=
  ⟨by simp, fun i => by simp, fun i hi => by
    obtain ⟨v, hv⟩ := hC i hi
    exact ⟨v, by rw [World.cell?_alloc_new]; exact hv⟩, fun i hi => by omega⟩
end

/-- 'make([]T, n)': n new elements; what they hold is not said. -/
theorem make_any {P : Program} (t e : TypeId) {size bytes : Nat} (hinfo : (P.info? e).map (fun i => (i.zero.isSome, i.size, i.bytes)) = some (true, size, bytes)) (ht : P.underlying t = some (.slice e))
    (n : Nat) (hb : bytes * n ≤ 281474976710656) (h63 : n ≤ 9223372036854775807) :
    ∃ C : Array Value, (∀ i, i < n * size → ∃ v, C[i]? = some v) ∧ ∀ W : World, (Instr.makeSlice t (.int .i64 (n : Int)) (.int .i64 (n : Int))).run P W = .ok (.slice (some ⟨W.heap.size, 0, none⟩) n n) (W.alloc (.cells C e)) := by
  obtain ⟨i, hi, hzz⟩ := Option.map_eq_some_iff.1 hinfo
  simp only [Prod.mk.injEq] at hzz
  obtain ⟨hz1, hz2, hz3⟩ := hzz
  obtain ⟨z, hz⟩ := Option.isSome_iff_exists.1 hz1
  refine ⟨madeCells z.cells (n * i.size), fun j hj => ?_, fun W => ?_⟩
  · rw [← hz2] at hj
    exact ⟨_, Array.getElem?_eq_getElem (by rw [size_madeCells]; exact hj)⟩
  · have hb' : (i.bytes : Int) * (n : Int) ≤ 281474976710656 := by
      rw [hz3]
      have : ((bytes * n : Nat) : Int) ≤ 281474976710656 := by omega
      rwa [Int.natCast_mul] at this
    have hr := run_make (P := P) W t e i z ht hi hz .i64 .i64 n n (by omega) (Int.le_refl _) hb' (by omega)
    simpa using hr

theorem infoRat : (Try.prog.info? 46).map (fun i => (i.zero.isSome, i.size, i.bytes)) = some (true, 2, 16) := by kernel_rfl
theorem infoGrain : (Try.prog.info? 52).map (fun i => (i.zero.isSome, i.size, i.bytes)) = some (true, 2, 16) := by kernel_rfl
theorem infoAfloat : (Try.prog.info? 97).map (fun i => (i.zero.isSome, i.size, i.bytes)) = some (true, 3, 24) := by kernel_rfl

/-- Pairs one after another; triples one after another. -/
def flat2 (l : List (Int × Int)) (i : Nat) : Int := let x := (l[i / 2]?).getD (0, 0); if i % 2 = 0 then x.1 else x.2
def flat3 (l : List (Int × Int × Int)) (i : Nat) : Int := let x := (l[i / 3]?).getD (0, 0, 0); if i % 3 = 0 then x.1 else if i % 3 = 1 then x.2.1 else x.2.2
theorem flat2_at {l : List (Int × Int)} {k : Nat} {s m : Int} (h : l[k]? = some (s, m)) : flat2 l (k * 2) = s ∧ flat2 l (k * 2 + 1) = m := by
  have e1 : k * 2 / 2 = k := by omega
  have e2 : (k * 2 + 1) / 2 = k := by omega
  have e3 : k * 2 % 2 = 0 := by omega
  have e4 : (k * 2 + 1) % 2 = 1 := by omega
  simp [flat2, e1, e2, e4, h]
theorem flat3_at {l : List (Int × Int × Int)} {k : Nat} {s a b : Int} (h : l[k]? = some (s, a, b)) : flat3 l (k * 3) = s ∧ flat3 l (k * 3 + 1) = a ∧ flat3 l (k * 3 + 2) = b := by
  have e1 : k * 3 / 3 = k := by omega
  have e2 : (k * 3 + 1) / 3 = k := by omega
  have e3 : (k * 3 + 2) / 3 = k := by omega
  have e5 : (k * 3 + 1) % 3 = 1 := by omega
  have e6 : (k * 3 + 2) % 3 = 2 := by omega
  simp [flat3, e1, e2, e3, e5, e6, h]
/-- A row of pairs is a slice of pairs. -/
theorem Row.prs {w : World} {g m : Nat} {l : List (Int × Int)} (h : Row w g m (l.length * 2) (flat2 l)) : Prs w (some ⟨g, 0, none⟩) l :=
  .inr ⟨g, 0, rfl, h.lt, fun j s x hj => by
    have hl : j < l.length := (List.getElem?_eq_some_iff.1 hj).1
    obtain ⟨e1, e2⟩ := flat2_at hj
    have c1 := h.cells (j * 2) (by omega)
    have c2 := h.cells (j * 2 + 1) (by omega)
    rw [e1] at c1
    rw [e2] at c2
    simpa using ⟨c1, c2⟩⟩
/-- The pot of a lot: each grain's size, and all of it above. -/
def pot (gs : List (Int × Int)) : List (Int × Int × Int) := gs.map fun g => (g.1, g.2, 1)

/-- A new pot. -/
def MadePot (w : World) (n : Nat) (ps : List (Int × Int × Int)) (e : Ending) (w' : World) : Prop :=
  ∃ g, e = .returned (.slice (some ⟨g, 0, none⟩) n n) ∧ w.heap.size ≤ g ∧ Bel w w' ∧ Row w' g (n * 3) (n * 3) (flat3 ps)
/-- A new slice of pairs. -/
def MadeRow (w : World) (n : Nat) (ps : List (Int × Int)) (e : Ending) (w' : World) : Prop :=
  ∃ g, e = .returned (.slice (some ⟨g, 0, none⟩) n n) ∧ w.heap.size ≤ g ∧ Bel w w' ∧ Row w' g (n * 2) (n * 2) (flat2 ps)
theorem pot_at {gs : List (Int × Int)} {k : Nat} {s m : Int} (h : gs[k]? = some (s, m)) : (pot gs)[k]? = some (s, m, 1) := by
  simp [pot, h]

set_option maxHeartbeats 400000 in
theorem pour_any (A : Option Addr) (n c : Nat) (gs : List (Int × Int)) (w : World) (hR : Prs w A gs) (hn : gs.length = n) (hmax : n ≤ 40) :
    Calls Try.prog 39 #[.slice A n c] w (MadePot w n (pot gs)) := by
  have Hn := Lib.hid hn; clear hn
  obtain ⟨C, hC, hmk⟩ := make_any (P := Try.prog) 78 97 infoAfloat Try.underlying78 n (by omega) (by omega)
  have HR := Row.new w C 97 (flat3 (pot gs)) hC
  clear hC
  go_enter Try.func39, Try.ntmps39
  go_wp2
  go_loopw [4, 5, 11] (fun _ _ i wr => ∃ k : Nat, k ≤ n ∧ i = .int .i64 k ∧ Bel w wr ∧ Row wr w.heap.size (n * 3) (k * 3) (flat3 (pot gs))) (fun _ _ i _ => n - (intOf i).toNat)
  case atStart => exact ⟨0, Nat.zero_le _, rfl, (Bel.refl _).alloc _, HR⟩
  case round =>
    clear HR hmk
    obtain ⟨k, hk, rfl, hb, hrow⟩ := hrel
    by_cases hlt : k < n
    · obtain ⟨b, o, s, m, rfl, hbl, hg, hc1, hc2⟩ := (hR.bel hb).at_ (k := k) (by rw [Hn.out]; exact hlt)
      obtain ⟨v0, hv0⟩ := hrow.all (k * 3) (by omega)
      obtain ⟨v1, hv1⟩ := hrow.all (k * 3 + 1) (by omega)
      obtain ⟨v2, hv2⟩ := hrow.all (k * 3 + 2) (by omega)
      have hfz := hrow.fz
      have hlt2 := hrow.lt
      obtain ⟨e1, e2, e3⟩ := flat3_at (pot_at hg)
      have E1 := Lib.hid e1; have E2 := Lib.hid e2; have E3 := Lib.hid e3
      clear hg e1 e2 e3
      go_wp2
      go_roundw
      case rel =>
        refine ⟨k + 1, by omega, by go_num, by (repeat (first | exact Bel.refl _ | assumption | refine Bel.drew ?_ | refine Bel.drewN ?_ _ | refine Bel.alloc ?_ _ | refine Bel.setCell ?_ (by first | omega | (simp; done) | (simp; omega) | (simp at *; omega)) _ | refine Bel.trans ?_ (by assumption))), ?_⟩
        rw [show (k + 1) * 3 = k * 3 + 1 + 1 + 1 from by omega]
        exact (((hrow.set_ (i := k * 3) rfl (by omega) E1.out.symm).set_ (i := k * 3 + 1) rfl (by omega) E2.out.symm).set_ (i := k * 3 + 1 + 1) rfl (by omega) E3.out.symm).alloc _
      case measure => simp [intOf]; omega
    · obtain rfl : k = n := by omega
      go_wp2
      go_ret
      exact ⟨_, rfl, Nat.le_refl _, hb, hrow⟩

set_option maxHeartbeats 400000 in
theorem leftIn_any (g n c : Nat) (ps : List (Int × Int × Int)) (w : World) (hR : Row w g (n * 3) (n * 3) (flat3 ps)) (hn : ps.length = n) (hmax : n ≤ 40) :
    Calls Try.prog 41 #[.slice (some ⟨g, 0, none⟩) n c] w (MadeRow w n (ps.map fun p => (p.2.1, p.2.2))) := by
  have Hn := Lib.hid hn; clear hn
  obtain ⟨C, hC, hmk⟩ := make_any (P := Try.prog) 47 46 infoRat Try.underlying47 n (by omega) (by omega)
  have HR := Row.new w C 46 (flat2 (ps.map fun p => (p.2.1, p.2.2))) hC
  clear hC
  go_enter Try.func41, Try.ntmps41
  go_wp2
  go_loopw [4, 5, 11] (fun _ _ i wr => ∃ k : Nat, k ≤ n ∧ i = .int .i64 k ∧ Bel w wr ∧ Row wr w.heap.size (n * 2) (k * 2) (flat2 (ps.map fun p => (p.2.1, p.2.2)))) (fun _ _ i _ => n - (intOf i).toNat)
  case atStart => exact ⟨0, Nat.zero_le _, rfl, (Bel.refl _).alloc _, HR⟩
  case round =>
    clear HR hmk
    obtain ⟨k, hk, rfl, hb, hrow⟩ := hrel
    by_cases hlt : k < n
    · obtain ⟨⟨s, a, d⟩, hg⟩ : ∃ x, ps[k]? = some x := ⟨_, List.getElem?_eq_getElem (by rw [Hn.out]; exact hlt)⟩
      obtain ⟨e1, e2, e3⟩ := flat3_at hg
      have hold := hR.bel hb
      have hc0 := hold.cells (k * 3) (by omega)
      have hc1 := hold.cells (k * 3 + 1) (by omega)
      have hc2 := hold.cells (k * 3 + 2) (by omega)
      rw [e1] at hc0
      rw [e2] at hc1
      rw [e3] at hc2
      clear e1 e2 e3
      obtain ⟨v0, hv0⟩ := hrow.all (k * 2) (by omega)
      obtain ⟨v1, hv1⟩ := hrow.all (k * 2 + 1) (by omega)
      have hfz := hrow.fz
      have hlt2 := hrow.lt
      have hg2 : (ps.map fun p => (p.2.1, p.2.2))[k]? = some (a, d) := by simp [hg]
      obtain ⟨e1, e2⟩ := flat2_at hg2
      have E1 := Lib.hid e1; have E2 := Lib.hid e2
      have hgl := hold.lt
      clear hg hg2 e1 e2
      go_wp2
      go_roundw
      case rel =>
        refine ⟨k + 1, by omega, by go_num, by (repeat (first | exact Bel.refl _ | assumption | refine Bel.drew ?_ | refine Bel.drewN ?_ _ | refine Bel.alloc ?_ _ | refine Bel.setCell ?_ (by first | omega | (simp; done) | (simp; omega) | (simp at *; omega)) _ | refine Bel.trans ?_ (by assumption))), ?_⟩
        rw [show (k + 1) * 2 = k * 2 + 1 + 1 from by omega]
        exact ((hrow.set_ (i := k * 2) rfl (by omega) E1.out.symm).set_ (i := k * 2 + 1) rfl (by omega) E2.out.symm).alloc _
      case measure => simp [intOf]; omega
    · obtain rfl : k = n := by omega
      go_wp2
      go_ret
      exact ⟨_, rfl, Nat.le_refl _, hb, by simpa [Hn.out] using hrow⟩
end Go.Proofs.Ytmbhhooiaonhjaa

