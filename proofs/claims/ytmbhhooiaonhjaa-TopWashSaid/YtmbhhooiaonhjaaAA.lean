/- Arrays of the masses by size. -/
import Derived.Test.YtmbhhooiaonhjaaZ2
import Derived.Test.YtmbhhooiaonhjaaR
import Derived.Deep.MidRow
namespace Go.Proofs.Ytmbhhooiaonhjaa
open Go.RowKit

/-- An array of 21 numbers, as cells. -/
def arrL (f : Nat → Int) : List Value := (List.range 21).map fun i => .int .i64 (f i)
theorem arrL_length (f : Nat → Int) : (arrL f).length = 21 := by simp [arrL]
theorem arr_size (f : Nat → Int) : (arrL f).toArray.size = 21 := by simp [arrL]
theorem arrL_at (f : Nat → Int) {i : Nat} (hi : i < 21) : (arrL f)[i]? = some (.int .i64 (f i)) := by simp [arrL, hi]
theorem arrL_one (f : Nat → Int) : ∀ v ∈ arrL f, v.oneCell' = true := by
  intro v hv
  obtain ⟨i, _, rfl⟩ := List.mem_map.1 hv
  rfl
section
variable {w w' : World} {g : Nat} {f : Nat → Int}
theorem Row.range (h : Row w g 21 21 f) : w.rangeAt g 0 (arrL f) := by
  intro j v hj
  have hl : j < 21 := by rw [← arrL_length f]; exact (List.getElem?_eq_some_iff.1 hj).1
  rw [arrL_at f hl] at hj
  rw [Nat.zero_add, h.cells j hl, hj]
theorem Row.there {k : Nat} {f : Nat → Int} (h : Row w g 21 k f) : w.there g 0 21 := fun j hj => by
  obtain ⟨v, hv⟩ := h.all j hj
  rw [Nat.zero_add]
  exact ⟨by rw [hv]; rfl, h.fz j⟩
theorem setCells_heap (b : Nat) : ∀ (vs : List Value) (o : Nat) (w : World), (w.setCells b o vs).heap.size = w.heap.size ∧ (∀ k, k ≠ b → (w.setCells b o vs).heap[k]? = w.heap[k]?) ∧ (w.setCells b o vs).os = w.os ∧ (w.setCells b o vs).tape = w.tape ∧ (w.setCells b o vs).output = w.output
  | [], _, _ => ⟨rfl, fun _ _ => rfl, rfl, rfl, rfl⟩
  | v :: r, o, w => by
    obtain ⟨h1, h2, h3, h4, h5⟩ := setCells_heap b r (o + 1) (w.setCell ⟨b, o, none⟩ v)
    exact ⟨h1.trans (by simp [World.setCell]), fun k hk => (h2 k hk).trans (Below.heap_setCell _ _ _ _ hk), h3, h4, h5⟩
theorem Bel.setCells {a : World} (h : Bel a w) {b : Nat} (hb : a.heap.size ≤ b) (o : Nat) (vs : List Value) : Bel a (w.setCells b o vs) := by
  obtain ⟨h1, h2, h3, h4, h5⟩ := setCells_heap b vs o w
  exact ⟨h3.trans h.os, h4.trans h.tape, h5.trans h.output, by rw [h1]; exact h.size, fun k hk => (h2 k (by omega)).trans (h.block k hk)⟩
theorem Row.far' {m k : Nat} {f : Nat → Int} (h : Row w g m k f) {b : Nat} (hb : g ≠ b) (o : Nat) (vs : List Value) : Row (w.setCells b o vs) g m k f := by
  obtain ⟨h1, h2, _⟩ := setCells_heap b vs o w
  exact h.of_block (Nat.le_of_eq h1.symm) (h2 g hb)
theorem Row.stored {k : Nat} {f0 : Nat → Int} (h : Row w g 21 k f0) (f : Nat → Int) : Row (w.setCells g 0 (arrL f)) g 21 21 f := by
  obtain ⟨h1, h2, _⟩ := setCells_heap g (arrL f) 0 w
  have hr := World.rangeAt_setCells_same w g 0 (arrL f) (by rw [arrL_length]; exact h.there)
  have hc : ∀ i, i < 21 → (w.setCells g 0 (arrL f)).cell? ⟨g, i, none⟩ = some (.int .i64 (f i)) := fun i hi => by
    have := hr i _ (arrL_at f hi)
    rwa [Nat.zero_add] at this
  exact ⟨by rw [h1]; exact h.lt, fun i => by rw [World.frozen?_setCells]; exact h.fz i, fun i hi => ⟨_, hc i hi⟩, hc⟩
/-- One cell of a row is written. -/
theorem Row.upd1 {m : Nat} (h : Row w g m m f) {i : Nat} (hi : i < m) {x : Int} {f' : Nat → Int} (h1 : f' i = x) (h2 : ∀ j, j ≠ i → f' j = f j) : Row (w.setCell ⟨g, i, none⟩ (.int .i64 x)) g m m f' := by
  obtain ⟨v, hv⟩ := h.all i hi
  have hc : ∀ j, j < m → (w.setCell ⟨g, i, none⟩ (.int .i64 x)).cell? ⟨g, j, none⟩ = some (.int .i64 (f' j)) := by
    intro j hj
    by_cases e : j = i
    · subst e
      rw [World.cell?_setCell_same _ _ _ hv, h1]
    · rw [World.cell?_setCell_other _ _ _ _ (by simp <;> omega), h.cells j hj, h2 j e]
  exact ⟨by simpa [World.setCell] using h.lt, fun j => by rw [World.frozen?_setCell]; exact h.fz j, fun j hj => ⟨_, hc j hj⟩, hc⟩
end
theorem infoArr : (Try.prog.info? 88).map (·.size) = some 21 := by kernel_rfl
theorem run_index21 (f : Nat → Int) (i : Nat) (hi : i < 21) (w : World) : (Instr.index 88 (.agg (arrL f).toArray) (.int .i64 (i : Int))).run Try.prog w = .ok (.int .i64 (f i)) w := by
  have h1 := arrL_at f hi
  simp [Instr.index, asIntOf, run_underlying Try.underlying88, go_sem, hi, h1]

/-- The mass of a size. -/
def massF (gs : List (Int × Int)) (i : Nat) : Int := (gs.map fun (g : Int × Int) => if g.1 = (i : Int) then g.2 else 0).sum
theorem massF_snoc (gs : List (Int × Int)) (s m : Int) (i : Nat) : massF (gs ++ [(s, m)]) i = massF gs i + if s = (i : Int) then m else 0 := by simp [massF]
theorem massF_bd {gs : List (Int × Int)} (i : Nat) (h : ∀ g ∈ gs, 0 ≤ g.2 ∧ g.2 ≤ 100) : 0 ≤ massF gs i ∧ massF gs i ≤ 100 * gs.length := by
  induction gs with
  | nil => simp [massF]
  | cons g r ih =>
    have h1 := ih fun x hx => h x (by simp [hx])
    have h2 := h g (by simp)
    have e : massF (g :: r) i = (if g.1 = (i : Int) then g.2 else 0) + massF r i := by simp [massF]
    rw [e, List.length_cons]
    split <;> omega

theorem results_arr {fn : Func} {p : Tmp} (h : fn.results = #[.cell p 88]) (tmps : Array Value) (w : World) (g : Nat) (f : Nat → Int) (hp : tmps.getD p undef = .pointer (some ⟨g, 0, none⟩)) (hr : Row w g 21 21 f) :
    (results fn tmps).run Try.prog w = .ok (.agg (arrL f).toArray) w := by
  have hp' : tmps[p]?.getD undef = .pointer (some ⟨g, 0, none⟩) := by simpa using hp
  have hl := run_loadVar_mid (P := Try.prog) w g 0 88 (arrL f) _ hr.range Try.underlying88 rfl (by rw [infoArr, arrL_length])
  simp [results, h, hp', asAddr, hl]

theorem zeros_row (w : World) (ty : TypeId) (g : Nat) (hg : g = w.heap.size) : Row (w.alloc (.cells #[.int .i64 0, .int .i64 0, .int .i64 0, .int .i64 0, .int .i64 0, .int .i64 0, .int .i64 0, .int .i64 0, .int .i64 0, .int .i64 0, .int .i64 0, .int .i64 0, .int .i64 0, .int .i64 0, .int .i64 0, .int .i64 0, .int .i64 0, .int .i64 0, .int .i64 0, .int .i64 0, .int .i64 0] ty)) g 21 21 (fun _ => 0) := by
  subst hg
  refine Row.whole w _ ty 21 _ fun i hi => ?_
  have h := arrL_at (fun _ => 0) hi
  have e : (#[.int .i64 0, .int .i64 0, .int .i64 0, .int .i64 0, .int .i64 0, .int .i64 0, .int .i64 0, .int .i64 0, .int .i64 0, .int .i64 0, .int .i64 0, .int .i64 0, .int .i64 0, .int .i64 0, .int .i64 0, .int .i64 0, .int .i64 0, .int .i64 0, .int .i64 0, .int .i64 0, .int .i64 0] : Array Value) = (arrL fun _ => 0).toArray := rfl
  rw [e]
  simpa using h

set_option maxHeartbeats 1000000 in
theorem bySize_any (A : Option Addr) (n c : Nat) (gs : List (Int × Int)) (w : World) (hR : Prs w A gs) (hn : gs.length = n) (hlen : n ≤ 6) (hm : Fit gs) :
    Calls Try.prog 48 #[.slice A n c] w fun e w' => e = .returned (.agg (arrL (massF gs)).toArray) ∧ Bel w w' := by
  have Hn := Lib.hid hn; clear hn
  go_enter Try.func48, Try.ntmps48
  go_wp2
  go_loopw [5, 8] (fun _ i wr => ∃ k : Nat, k ≤ n ∧ i = .int .i64 k ∧ Bel w wr ∧ Row wr w.heap.size 21 21 (fun _ => 0) ∧ Row wr (w.heap.size + 1) 21 21 (massF (gs.take k))) (fun _ i _ => n - (intOf i).toNat)
  case atStart => exact ⟨0, Nat.zero_le _, rfl, by (repeat (first | exact Bel.refl _ | assumption | refine Bel.drew ?_ | refine Bel.drewN ?_ _ | refine Bel.alloc ?_ _ | refine Bel.setCell ?_ (by first | omega | (simp; done) | (simp; omega) | (simp at *; omega)) _ | refine Bel.trans ?_ (by assumption))), (zeros_row _ _ _ rfl).alloc _, (zeros_row _ _ _ (by simp)).congr fun i _ => by simp [massF]⟩
  case round =>
    obtain ⟨k, hk, rfl, hb, hr0, hr1⟩ := hrel
    by_cases hlt : k < n
    · obtain ⟨b, o, s, m, rfl, hbl, hg, hc1, hc2⟩ := (hR.bel hb).at_ (k := k) (by rw [Hn.out]; exact hlt)
      obtain ⟨⟨hm3, hm4⟩, hm1, hm2⟩ := hm (s, m) (List.mem_of_getElem? hg)
      simp only at hm1 hm2 hm3 hm4
      obtain ⟨s', rfl⟩ := Int.eq_ofNat_of_zero_le (by omega : 0 ≤ s)
      obtain ⟨v1, v2⟩ := massF_bd s' (hm.take k).mass
      have hl := List.length_take_le k gs
      have hv : massF (gs.take k) s' ≤ 600 := by omega
      clear v2 hl
      have HT := Lib.hid (take_at hg)
      have HS := Lib.hid (massF_snoc (gs.take k) s' m)
      clear hg hm
      have hs21 : (s' : Int) < 21 := by omega
      have hs0 : (0 : Int) ≤ (s' : Int) := by omega
      have q1 := hr1.cells s' (by omega)
      have q2 := hr1.fz s'
      have q3 := hr1.lt
      go_wp2
      go_region
      go_wp2
      go_roundw
      case rel =>
        refine ⟨k + 1, by omega, by go_num, by (repeat (first | exact Bel.refl _ | assumption | refine Bel.drew ?_ | refine Bel.drewN ?_ _ | refine Bel.alloc ?_ _ | refine Bel.setCell ?_ (by first | omega | (simp; done) | (simp; omega) | (simp at *; omega)) _ | refine Bel.trans ?_ (by assumption))), ((hr0.far (by simp) _).alloc _).drew, ((hr1.upd1 (by omega) ?_ ?_).alloc _).drew⟩
        · rw [HT.out, HS.out, if_pos rfl]
        · intro j hj
          rw [HT.out, HS.out, if_neg (by omega), Int.add_zero]
      case measure => simp [intOf]; omega
    · obtain rfl : k = n := by omega
      have ht : gs.take k = gs := List.take_of_length_le (by rw [Hn.out]; omega)
      rw [ht] at hr1
      clear ht
      have hth : wr.there w.heap.size 0 (arrL (massF gs)).toArray.size := by rw [arr_size]; exact hr0.there
      have hinf : (Try.prog.info? 88).map (·.size) = some (arrL (massF gs)).toArray.size := by rw [infoArr, arr_size]
      have hinf2 : (Try.prog.info? 88).map (·.size) = some (arrL (massF gs)).length := by rw [infoArr, arrL_length]
      have Hth := Lib.hid hth; have Hinf := Lib.hid hinf; have Hinf2 := Lib.hid hinf2
      clear hth hinf hinf2
      go_wp2_with (first | (refine wpList_load_mid rfl 88 _ rfl (w.heap.size + 1) 0 rfl (arrL (massF gs)) _ hr1.range Try.underlying88 rfl Hinf2.out ?_) | (refine wpList_store_mid rfl 88 _ _ rfl w.heap.size 0 (arrL (massF gs)).toArray rfl rfl Hth.out Hinf.out (all_oneCell_toArray (arrL_one _)) ?_))
      have hr2 := hr0.stored (massF gs)
      exact bodyPost_ret (v := .agg (arrL (massF gs)).toArray) (results_arr Try.results48 _ _ w.heap.size _ rfl hr2) rfl ⟨rfl, hb.setCells (Nat.le_refl _) _ _⟩
end Go.Proofs.Ytmbhhooiaonhjaa

