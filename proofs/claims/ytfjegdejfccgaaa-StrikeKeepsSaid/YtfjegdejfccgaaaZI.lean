/- compoundLines and elementLines. -/
import Derived.Test.YtfjegdejfccgaaaZG
namespace Go.Proofs.Ytfjegdejfccgaaa
open Go.RowKit

/-- The lines of the compounds, and those of the elements. -/
def cmF (X Y : List (List Int)) (j e : Nat) : Int := ((colL X Y).getD j []).getD e 0
def elF (X Y : List (List Int)) (j i : Nat) : Int := cmF X Y i j
theorem made6 (n : Nat) : ∃ C : Array Value, (∀ p, p < n * 6 → C[p]? = some (.int .i64 0)) ∧ (n ≤ 20 → ∀ W : World, (Instr.makeSlice 68 (.int .i64 (n : Int)) (.int .i64 (n : Int))).run Try.prog W = .ok (.slice (some ⟨W.heap.size, 0, none⟩) n n) (W.alloc (.cells C 79))) := by
  obtain ⟨i0, hi, hz0, hz1, hz2⟩ := info_parts info6L
  refine ⟨madeCells (Value.agg #[.int .i64 0, .int .i64 0, .int .i64 0, .int .i64 0, .int .i64 0, .int .i64 0]).cells (n * 6), fun p hp => ?_, fun hn W => ?_⟩
  · have e : (Value.agg #[.int .i64 0, .int .i64 0, .int .i64 0, .int .i64 0, .int .i64 0, .int .i64 0]).cells = #[.int .i64 0, .int .i64 0, .int .i64 0, .int .i64 0, .int .i64 0, .int .i64 0] := by kernel_rfl
    rw [e]
    have hm : p % 6 < 6 := Nat.mod_lt _ (by omega)
    have e2 : (madeCells #[.int .i64 0, .int .i64 0, .int .i64 0, .int .i64 0, .int .i64 0, .int .i64 0] (n * 6))[p]? = some (#[Value.int .i64 0, .int .i64 0, .int .i64 0, .int .i64 0, .int .i64 0, .int .i64 0][p % 6]!) := by
      simp [madeCells, hp]
    rw [e2]
    generalize p % 6 = q at hm
    rcases (by omega : q = 0 ∨ q = 1 ∨ q = 2 ∨ q = 3 ∨ q = 4 ∨ q = 5) with rfl | rfl | rfl | rfl | rfl | rfl <;> rfl
  · have hr := run_make (P := Try.prog) W 68 79 i0 _ Try.underlying68 hi hz0 .i64 .i64 n n (by omega) (Int.le_refl _) (by rw [hz2]; omega) (by omega)
    rw [hz1] at hr
    simpa using hr
theorem mat_made {w : World} {C : Array Value} {n : Nat} {t : TypeId} (hC : ∀ p, p < n * 6 → C[p]? = some (.int .i64 0)) : Mat (w.alloc (.cells C t)) w.heap.size n (fun _ _ => 0) :=
  ⟨by simp, fun i => by simp, fun j i hj hi => by rw [World.cell?_alloc_new]; exact hC _ (by omega)⟩
theorem cm_len {X Y : List (List Int)} {j : Nat} {r : List Int} (h : (colL X Y)[j]? = some r) (i : Nat) : cmF X Y j i = r.getD i 0 := by unfold cmF; rw [getT_at h]
theorem cm_out {X Y : List (List Int)} {j : Nat} (h : X.length + Y.length ≤ j) (i : Nat) : cmF X Y j i = 0 := by
  unfold cmF
  have e : (colL X Y).getD j [] = [] := by rw [List.getD_eq_getElem?_getD, List.getElem?_eq_none (by rw [colL_len]; omega)]; rfl
  rw [e]
  rfl

/-- But for a block all that was there is as it was. -/
def Kp (g : Nat) (w w' : World) : Prop := w.heap.size ≤ w'.heap.size ∧ ∀ b, b ≠ g → b < w.heap.size → w'.heap[b]? = w.heap[b]?
theorem Kp.refl (g : Nat) (w : World) : Kp g w w := ⟨Nat.le_refl _, fun _ _ _ => rfl⟩
theorem Kp.cell {g : Nat} {w w' : World} (h : Kp g w w') {b : Nat} (hb : b ≠ g) (hl : b < w.heap.size) (o : Nat) : w'.cell? ⟨b, o, none⟩ = w.cell? ⟨b, o, none⟩ := World.cell?_of_block (w := w) (a := ⟨b, o, none⟩) (h.2 b hb hl)
theorem Kp.set_ {g : Nat} {w w' : World} (h : Kp g w w') (o : Nat) (u : Value) : Kp g w (w'.setCell ⟨g, o, none⟩ u) := ⟨by simpa [World.setCell] using h.1, fun b hb hl => (Below.heap_setCell _ _ _ _ (show b ≠ (⟨g, o, none⟩ : Addr).block from hb)).trans (h.2 b hb hl)⟩
theorem Kp.bel {g : Nat} {w w' w2 : World} (h : Kp g w w') (hb : Bel w' w2) : Kp g w w2 := ⟨Nat.le_trans h.1 hb.size, fun b hn hl => (hb.block b (Nat.lt_of_lt_of_le hl h.1)).trans (h.2 b hn hl)⟩
structure TabW (w0 w' : World) (g : Nat) (T : List (List Int)) : Prop where
  lt : g < w'.heap.size
  row : ∀ (j : Nat) (ns : List Int), T[j]? = some ns → ∃ A' n' c', w'.cell? ⟨g, j, none⟩ = some (.slice A' n' c') ∧ Ints w0 A' ns ∧ ns.length = n' ∧ n' ≤ maxLen
def NewTF (w0 w : World) (T : List (List Int)) (e : Ending) (w' : World) : Prop := ∃ g n c, e = .returned (.slice (some ⟨g, 0, none⟩) n c) ∧ n = T.length ∧ Bel w w' ∧ TabW w0 w' g T ∧ w.heap.size ≤ g
theorem TabW.of_own {w0 w' : World} {base n g cap e : Nat} {vs : List Value} {T : List (List Int)} (h : w'.ownsRow base e 1 (.slice (some ⟨g, 0, none⟩) n cap) n vs) (hR : RowsV w0 vs T) : TabW w0 w' g T := by
  have hc := World.ownsRow.cells (g := g) h rfl
  refine ⟨(World.ownsRow.lt h g rfl).2, fun j ns hj => ?_⟩
  obtain ⟨A', n', c', h1, h3, h4, h5⟩ := hR.els j ns hj
  have k1 := hc _ _ h1
  rw [Go.Addr.add_mid, Nat.zero_add] at k1
  exact ⟨A', n', c', k1, h3, h4, h5⟩
set_option maxRecDepth 100000 in
set_option maxHeartbeats 1000000 in
theorem concat_far (g : Nat) (A B : Option Addr) (n c m d : Nat) (X Y : List (List Int)) (w0 w : World) (hb0 : Bel w0 w) (hc0 : w.cell? ⟨g, 0, none⟩ = some (.slice A n c)) (hc1 : w.cell? ⟨g, 1, none⟩ = some (.slice B m d)) (hg : g < w.heap.size)
    (hX : Tab 0 w0 A X) (hY : Tab 0 w0 B Y) (hn : X.length = n) (hm : Y.length = m) (n1 : 1 ≤ n) (n10 : n ≤ 10) (m1 : 1 ≤ m) (m10 : m ≤ 10) :
    Calls Try.prog 109 #[.slice (some ⟨g, 0, none⟩) 2 2] w (NewTF w0 w (X ++ Y)) := by
  obtain ⟨i0, hi, hz0, hz1, hz2⟩ := info_parts info1T
  obtain ⟨ab, ao, vs, rfl, hal, hav, hVX⟩ := hX.vals (by intro e; rw [e] at hn; simp at hn; omega)
  obtain ⟨bb, bo, us, rfl, hbl, hbv, hVY⟩ := hY.vals (by intro e; rw [e] at hm; simp at hm; omega)
  have HN := Lib.hid hn; have HM := Lib.hid hm
  have HVX := Lib.hid hVX; have HVY := Lib.hid hVY
  have hni : (n : Int) ≤ 10 := by omega
  have hmi : (m : Int) ≤ 10 := by omega
  have HAV : Hid (∀ w', Bel w0 w' → ∀ j u, vs[j]? = some u → w'.cell? ((⟨ab, ao, none⟩ : Addr).add j) = some u) := by
    intro w' h j u hj
    have := hav j u hj
    rw [Go.Addr.add_mid] at this ⊢
    rw [h.use.1 _ _ hal]
    exact this
  have HBV : Hid (∀ w', Bel w0 w' → ∀ j u, us[j]? = some u → w'.cell? ((⟨bb, bo, none⟩ : Addr).add j) = some u) := by
    intro w' h j u hj
    have := hbv j u hj
    rw [Go.Addr.add_mid] at this ⊢
    rw [h.use.1 _ _ hbl]
    exact this
  have Held := Lib.hid (fun w' (h : Bel w w') => show w'.cell? ⟨g, 0, none⟩ = some (.slice (some ⟨ab, ao, none⟩) n c) ∧ w'.cell? ⟨g, 1, none⟩ = some (.slice (some ⟨bb, bo, none⟩) m d) from ⟨by rw [h.use.1 _ _ hg]; exact hc0, by rw [h.use.1 _ _ hg]; exact hc1⟩)
  clear hn hm hVX hVY hav hbv hX hY
  go_enter Try.func109, Try.ntmps109
  go_wp2
  go_loop [3, 11] (fun s i => ∃ k : Nat, k ≤ 2 ∧ i = .int .i64 k ∧ s = .int .i64 (szL n m k : Nat)) (fun _ i => 2 - (intOf i).toNat)
  case atStart => exact ⟨0, by omega, rfl, rfl⟩
  case round =>
    obtain ⟨k, hk, rfl, rfl⟩ := hrel
    rcases (by omega : k = 0 ∨ k = 1 ∨ k = 2) with rfl | rfl | rfl
    · have e0 : szL n m 0 = 0 := rfl
      rw [e0]
      clear e0
      go_wp2
      go_round
      case rel => exact ⟨1, by omega, by go_num, by simp [szL]⟩
      case measure => simp [intOf]
    · have e0 : szL n m 1 = n := rfl
      rw [e0]
      clear e0
      have h0 : ¬ ((n : Int) + (m : Int) < 0) := by omega
      go_wp2
      go_round
      case rel => exact ⟨2, by omega, by go_num, by simp [szL]⟩
      case measure => simp [intOf]
    · have e0 : szL n m 2 = n + m := rfl
      rw [e0]
      clear e0
      go_wp2_with fail
      refine (grow_any (n + m) w (by omega) (by omega)).mono ?_
      rintro e w1 ⟨cap, rfl, hb1, hO1⟩
      have HO1 := Lib.hid hO1.own
      clear hO1
      go_wp2
      go_loopw [6, 27] (fun v i wr => ∃ k : Nat, k ≤ 2 ∧ i = .int .i64 k ∧ Bel w wr ∧ wr.ownsRow w.heap.size 28 1 v (szL n m k) (vsL vs us k)) (fun _ i _ => 2 - (intOf i).toNat)
      case atStart => exact ⟨0, by omega, rfl, hb1, HO1.out⟩
      case round =>
        clear HO1
        obtain ⟨k, hk, rfl, hb, hO⟩ := hrel
        have hbs := hb.size
        obtain ⟨q0, q1⟩ := Held.out _ hb
        rcases (by omega : k = 0 ∨ k = 1 ∨ k = 2) with rfl | rfl | rfl
        · have hO' : wr.ownsRow w.heap.size 28 1 u6 0 [] := hO
          have HO := Lib.hid hO'
          clear hO hO' q1
          have hX1 := Lib.hid (show 0 + n ≤ maxLen by unfold maxLen; omega)
          have hX2 := Lib.hid (show (0 + n) * 24 ≤ 140737488355328 by omega)
          go_wp2_with (at_builtin; go_loud (refine wpList_append_lies _ rfl (.tmp 31) (.tmp 32) 22 rfl w.heap.size 28 i0 _ 1 24 Try.underlying22 hi hz0 hz1 hz2 rfl (by decide) _ 0 [] (by rfl) HO.out ⟨ab, ao, none⟩ n c vs (by rfl) (by rw [HVX.out.len, HN.out, Nat.mul_one]) (HAV.out _ (hb0.trans hb)) HVX.out.one (by omega) hX1.out hX2.out hbs _ rfl ?_); intro g3 cap3 w3; rw [show 0 + n = n from Nat.zero_add n, List.nil_append]; intro hown3 hgr3 hat3 hlt3)
          have hB3 := Lib.hid (grown_own (w := w) hb HO.out (Nat.le_refl _) hgr3)
          have HO3 := Lib.hid hown3
          clear hown3 hgr3 hat3 hlt3
          go_roundw
          case rel => exact ⟨1, by omega, by go_num, hB3.out, HO3.out⟩
          case measure => simp [intOf]
        · have hO' : wr.ownsRow w.heap.size 28 1 u6 n vs := hO
          have HO := Lib.hid hO'
          clear hO hO' q0
          have hX1 := Lib.hid (show n + m ≤ maxLen by unfold maxLen; omega)
          have hX2 := Lib.hid (show (n + m) * 24 ≤ 140737488355328 by omega)
          go_wp2_with (at_builtin; go_loud (refine wpList_append_lies _ rfl (.tmp 31) (.tmp 32) 22 rfl w.heap.size 28 i0 _ 1 24 Try.underlying22 hi hz0 hz1 hz2 rfl (by decide) _ n vs (by rfl) HO.out ⟨bb, bo, none⟩ m d us (by rfl) (by rw [HVY.out.len, HM.out, Nat.mul_one]) (HBV.out _ (hb0.trans hb)) HVY.out.one (by omega) hX1.out hX2.out hbs _ rfl ?_); intro g3 cap3 w3 hown3 hgr3 hat3 hlt3)
          have hB3 := Lib.hid (grown_own (w := w) hb HO.out (Nat.le_refl _) hgr3)
          have HO3 := Lib.hid hown3
          clear hown3 hgr3 hat3 hlt3
          go_roundw
          case rel => exact ⟨2, by omega, by go_num, hB3.out, HO3.out⟩
          case measure => simp [intOf]
        · have hO' : wr.ownsRow w.heap.size 28 1 u6 (n + m) (vs ++ us) := hO
          obtain ⟨g9, cap9, rfl, _, _⟩ := hO'.form (by omega)
          have HO := Lib.hid hO'
          clear hO hO' q0 q1
          go_wp2
          go_ret
          exact ⟨g9, _, _, rfl, by rw [List.length_append, HN.out, HM.out], hb, TabW.of_own HO.out (HVX.out.append HVY.out), (World.ownsRow.lt HO.out g9 rfl).1⟩
theorem compoundsOf_far (A B : Option Addr) (n c m d : Nat) (X Y : List (List Int)) (w0 w : World) (hb0 : Bel w0 w) (hS : Strk w0 A n B m X Y) (n1 : 1 ≤ n) (n10 : n ≤ 10) (m1 : 1 ≤ m) (m10 : m ≤ 10) :
    Calls Try.prog 75 #[.agg #[.slice A n c, .slice B m d]] w (NewTF w0 w (X ++ Y)) := by
  obtain ⟨hX, hY, hn, hm⟩ := hS
  have HN := Lib.hid hn; have HM := Lib.hid hm
  clear hn hm
  go_enter Try.func75, Try.ntmps75
  go_wp2_with fail
  refine (concat_far _ A B n c m d X Y w0 _ ((hb0.alloc _).alloc _) (by go_simp) (by go_simp) (by simp) hX hY HN.out HM.out n1 n10 m1 m10).mono ?_
  rintro e w1 ⟨g1, n1', c1, rfl, hn1, hb1, hT1, hg1⟩
  have HN1 := Lib.hid hn1
  clear hn1
  go_wp2
  go_ret
  exact ⟨g1, n1', c1, rfl, HN1.out, by (repeat (first | exact Bel.refl _ | assumption | refine Bel.drew ?_ | refine Bel.drewN ?_ _ | refine Bel.alloc ?_ _ | refine Bel.setCell ?_ (by first | omega | (simp; done) | (simp; omega) | (simp at *; omega)) _ | refine Bel.trans ?_ (by assumption))), hT1, by simp at hg1; omega⟩
end Go.Proofs.Ytfjegdejfccgaaa
