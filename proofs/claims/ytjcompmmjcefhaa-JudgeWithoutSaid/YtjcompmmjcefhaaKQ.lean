/- Records: pick, walked. -/
import Derived.Test.YtjcompmmjcefhaaKP
namespace Go.Proofs.Ytjcompmmjcefhaa
open Go.RowKit

/-- Block B is the box of a question: two cells that may be stored to. -/
structure QB (w : World) (B a b : Nat) : Prop where
  lt : B < w.heap.size
  c0 : w.cell? ⟨B, 0, none⟩ = some (.int .i64 (a : Int))
  c1 : w.cell? ⟨B, 1, none⟩ = some (.int .i64 (b : Int))
  f0 : w.frozen? ⟨B, 0, none⟩ = false
  f1 : w.frozen? ⟨B, 1, none⟩ = false
section
variable {w w' : World} {B a b : Nat}
theorem QB.of_block (h : QB w B a b) (hs : w.heap.size ≤ w'.heap.size) (hb : w'.heap[B]? = w.heap[B]?) : QB w' B a b := by
  have hc : ∀ j, w'.cell? ⟨B, j, none⟩ = w.cell? ⟨B, j, none⟩ := fun j => World.cell?_of_block (w := w) (a := ⟨B, j, none⟩) hb
  have hf : ∀ j, w'.frozen? ⟨B, j, none⟩ = w.frozen? ⟨B, j, none⟩ := fun j => World.frozen?_of_block (w := w) (a := ⟨B, j, none⟩) hb
  exact ⟨Nat.lt_of_lt_of_le h.lt hs, (hc 0).trans h.c0, (hc 1).trans h.c1, (hf 0).trans h.f0, (hf 1).trans h.f1⟩
theorem QB.set0 (h : QB w B a b) {x : Int} {c : Nat} (hx : x = (c : Int)) : QB (w.setCell ⟨B, 0, none⟩ (.int .i64 x)) B c b := by
  subst hx
  exact ⟨by simpa [World.setCell] using h.lt, World.cell?_setCell_same _ _ _ h.c0, by rw [World.cell?_setCell_other _ _ _ _ (by simp)]; exact h.c1, by rw [World.frozen?_setCell]; exact h.f0, by rw [World.frozen?_setCell]; exact h.f1⟩
theorem QB.set1 (h : QB w B a b) {x : Int} {c : Nat} (hx : x = (c : Int)) : QB (w.setCell ⟨B, 1, none⟩ (.int .i64 x)) B a c := by
  subst hx
  exact ⟨by simpa [World.setCell] using h.lt, by rw [World.cell?_setCell_other _ _ _ _ (by simp)]; exact h.c0, World.cell?_setCell_same _ _ _ h.c1, by rw [World.frozen?_setCell]; exact h.f0, by rw [World.frozen?_setCell]; exact h.f1⟩
theorem QB.new (w : World) (a b : Nat) (c : Value) (t : TypeId) : QB (w.alloc (.cells #[.int .i64 (a : Int), .int .i64 (b : Int), c] t)) w.heap.size a b :=
  ⟨by simp, by go_simp, by go_simp, by go_simp, by go_simp⟩
theorem Own1.far {e base : Nat} {v : Value} {l : List Int} (h : Own1 e base w v l) {p : Addr} (hp : p.block < base) (u : Value) : Own1 e base (w.setCell p u) v l :=
  World.ownsRow.kept (row := some p.block) h ⟨rfl, rfl, rfl, by simp [World.setCell], fun k _ hne => Below.heap_setCell _ _ _ _ (fun e => hne (by rw [e]))⟩ (by
    cases hv : v.ownBlock with
    | none => exact .inl rfl
    | some k =>
      refine .inr (fun e => ?_)
      have := (World.ownsRow.lt h k hv).1
      injection e with e
      omega)
end
/-- All that pick's round needs. -/
structure PI (w wr : World) (b0 g : Nat) (L : List An) (x y k : Nat) (v : Value) (a b : Nat) (l : List Int) : Prop where
  eq : pk (cntI L) x y k = (a, b, l)
  bel : Bel w wr
  row : Row wr b0 g g (cntI L)
  box : QB wr w.heap.size a b
  own : Own1 3 (w.heap.size + 1) wr v l
  size : w.heap.size + 1 ≤ wr.heap.size

set_option maxRecDepth 100000 in
set_option maxHeartbeats 4000000 in
theorem pick_any (g b0 : Nat) (L : List An) (x y : Nat) (ok : Bool) (w : World) (hr : Row w b0 g g (cntI L)) (hg : g ≤ 16) (hx : x ≤ 48) (hy : y ≤ 48) :
    Calls Try.prog 45 #[.slice (some ⟨b0, 0, none⟩) g g, .agg #[.int .i64 (x : Int), .int .i64 (y : Int), .bool ok]] w (News w (pk (cntI L) x y g).2.2) := by
  have hb0 := hr.lt
  have hgi : (g : Int) ≤ 16 := by omega
  obtain ⟨i0, hi, hz0, hz1, hz2⟩ := info_parts info1I
  go_enter Try.func45, Try.ntmps45
  go_wp2
  go_loopw [5, 10] (fun v i wr => ∃ (k a b : Nat) (l : List Int), k ≤ g ∧ i = .int .i64 k ∧ a ≤ 48 ∧ b ≤ 48 ∧ PI w wr b0 g L x y k v a b l) (fun _ i _ => g - (intOf i).toNat)
  case atStart => exact ⟨0, x, y, [], Nat.zero_le _, rfl, hx, hy, ⟨rfl, (Bel.refl w).alloc _, hr.alloc _, QB.new _ _ _ _ _, Own1.nil _ _ _, by simp⟩⟩
  case round =>
    obtain ⟨k, a, b, l, hk, rfl, ha, hb, hP⟩ := hrel
    clear hr
    by_cases hlt : k < g
    · have hcell := hP.row.cells k hlt
      have hkg : (k : Int) < (g : Int) := by omega
      have hq0 := hP.box.c0; have hq1 := hP.box.c1
      have hf0 := hP.box.f0; have hf1 := hP.box.f1
      have hlen := pk_len (cntI L) x y k
      rw [hP.eq] at hlen
      simp only at hlen
      have hbd := (cntI_bd L k).1
      have HPK := Lib.hid hP
      obtain ⟨v0, hv⟩ : ∃ v0, v0 = cntI L k := ⟨_, rfl⟩
      rw [← hv] at hcell hbd
      have HV := Lib.hid hv
      clear hv hP
      have hX1 := Lib.hid (show l.length + 1 ≤ maxLen by unfold maxLen; omega)
      have hX2 := Lib.hid (show (l.length + 1) * 8 ≤ 140737488355328 by omega)
      rcases (by omega : v0 = 0 ∨ v0 = 1 ∨ 2 ≤ v0) with e | e | e
      · subst e
        by_cases h0 : 0 < a
        · have hai : (0 : Int) < (a : Int) := by omega
          go_wp2_with (at_builtin; go_loud (refine wpList_append_lies _ rfl (.tmp 27) (.tmp 29) 23 rfl (w.heap.size + 1) 3 i0 _ 1 8 Try.underlying23 hi hz0 hz1 hz2 rfl (by decide) u5 l.length (l.map fun x => .int .i64 x) (by rfl) ((HPK.out.own.far (by simp) _).alloc _) ⟨_, 0, none⟩ 1 1 [.int .i64 (k : Int)] (by rfl) rfl (new1 _ _ _ _ (by simp [World.setCell])) (one1 _) (by omega) hX1.out hX2.out (Nat.le_trans HPK.out.size (by simp [World.setCell])) _ rfl ?_); intro g3 cap3 w3 hown3 hgr3 _ hlt3)
          have hP := HPK.out
          have hws : w.heap.size ≤ w.heap.size + 1 := by omega
          obtain ⟨hB3, hs3, hblk⟩ := after_app (hP.bel.setCell (by simp) _) hws (hP.own.far (by simp) _) (by simpa [World.setCell] using hP.size) hgr3
          have hz3 : wr.heap.size ≤ w3.heap.size := by have := hgr3.size; simp [World.setCell] at this; omega
          have hrow := (hP.row.far (p := ⟨w.heap.size, 0, none⟩) (by simp; omega) (.int .i64 ((a : Int) - 1))).of_block (by simpa [World.setCell] using hz3) (hblk b0 (by omega))
          have hbox := (hP.box.set0 (x := (a : Int) - 1) (c := a - 1) (by omega)).of_block (by simpa [World.setCell] using hz3) (hblk w.heap.size (by omega))
          have hown := Own1.snoc hown3
          have hpk := pk_a hP.eq HV.out.symm h0
          clear hown3 hgr3 hlt3 hblk hcell hq0 hq1 hf0 hf1 hP
          go_roundw
          case rel => exact ⟨k + 1, a - 1, b, l ++ [(k : Int)], by omega, by go_num, by omega, by omega, ⟨hpk, hB3, hrow, hbox, hown, hs3⟩⟩
          case measure => simp [intOf]; omega
        · have hai : (a : Int) ≤ 0 := by omega
          go_wp2
          go_roundw
          case rel =>
            have hP := HPK.out
            have hv := HV.out
            exact ⟨k + 1, a, b, l, by omega, by go_num, ha, hb, ⟨pk_c hP.eq (fun h => h0 h.2) (fun h => by have := hv.trans h.1; omega), hP.bel, hP.row, hP.box, hP.own, hP.size⟩⟩
          case measure => simp [intOf]; omega
      · subst e
        by_cases h0 : 0 < b
        · have hai : (0 : Int) < (b : Int) := by omega
          go_wp2_with (at_builtin; go_loud (refine wpList_append_lies _ rfl (.tmp 43) (.tmp 45) 23 rfl (w.heap.size + 1) 3 i0 _ 1 8 Try.underlying23 hi hz0 hz1 hz2 rfl (by decide) u5 l.length (l.map fun x => .int .i64 x) (by rfl) ((HPK.out.own.far (by simp) _).alloc _) ⟨_, 0, none⟩ 1 1 [.int .i64 (k : Int)] (by rfl) rfl (new1 _ _ _ _ (by simp [World.setCell])) (one1 _) (by omega) hX1.out hX2.out (Nat.le_trans HPK.out.size (by simp [World.setCell])) _ rfl ?_); intro g3 cap3 w3 hown3 hgr3 _ hlt3)
          have hP := HPK.out
          have hws : w.heap.size ≤ w.heap.size + 1 := by omega
          obtain ⟨hB3, hs3, hblk⟩ := after_app (hP.bel.setCell (by simp) _) hws (hP.own.far (by simp) _) (by simpa [World.setCell] using hP.size) hgr3
          have hz3 : wr.heap.size ≤ w3.heap.size := by have := hgr3.size; simp [World.setCell] at this; omega
          have hrow := (hP.row.far (p := ⟨w.heap.size, 1, none⟩) (by simp; omega) (.int .i64 ((b : Int) - 1))).of_block (by simpa [World.setCell] using hz3) (hblk b0 (by omega))
          have hbox := (hP.box.set1 (x := (b : Int) - 1) (c := b - 1) (by omega)).of_block (by simpa [World.setCell] using hz3) (hblk w.heap.size (by omega))
          have hown := Own1.snoc hown3
          have hpk := pk_b hP.eq HV.out.symm h0
          clear hown3 hgr3 hlt3 hblk hcell hq0 hq1 hf0 hf1 hP
          go_roundw
          case rel => exact ⟨k + 1, a, b - 1, l ++ [(k : Int)], by omega, by go_num, by omega, by omega, ⟨hpk, hB3, hrow, hbox, hown, hs3⟩⟩
          case measure => simp [intOf]; omega
        · have hai : (b : Int) ≤ 0 := by omega
          go_wp2
          go_roundw
          case rel =>
            have hP := HPK.out
            have hv := HV.out
            exact ⟨k + 1, a, b, l, by omega, by go_num, ha, hb, ⟨pk_c hP.eq (fun h => by have := hv.trans h.1; omega) (fun h => h0 h.2), hP.bel, hP.row, hP.box, hP.own, hP.size⟩⟩
          case measure => simp [intOf]; omega
      · have e0 : ¬ v0 = 0 := by omega
        have e1 : ¬ v0 = 1 := by omega
        go_wp2
        go_roundw
        case rel =>
          have hP := HPK.out
          have hv := HV.out
          exact ⟨k + 1, a, b, l, by omega, by go_num, ha, hb, ⟨pk_c hP.eq (fun h => e0 (hv.trans h.1)) (fun h => e1 (hv.trans h.1)), hP.bel, hP.row, hP.box, hP.own, hP.size⟩⟩
        case measure => simp [intOf]; omega
    · obtain rfl : k = g := by omega
      obtain ⟨A', n', c', rfl, hn', hI⟩ := hP.own.form
      have HN := Lib.hid hn'
      have HPK := Lib.hid hP
      clear hn' hP
      go_wp2
      go_ret
      have hP := HPK.out
      rw [hP.eq]
      exact ⟨A', n', c', rfl, HN.out, hP.bel, hI⟩
end Go.Proofs.Ytjcompmmjcefhaa

