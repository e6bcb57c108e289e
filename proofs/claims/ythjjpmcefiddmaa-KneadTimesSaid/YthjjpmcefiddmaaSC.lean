/- The program's rounds of a batch. -/
import Derived.Test.YthjjpmcefiddmaaSB
namespace Go.Proofs.Ythjjpmcefiddmaa
open Go.RowKit

attribute [local go_sem] Oper.semAt_some

theorem own_store {e base : Nat} {w : World} {v : Value} {l : List Int} (h : Own1 e base w v l) {g o : Nat} (hg : g < base) (u : Value) : Own1 e base (w.setCell ⟨g, o, none⟩ u) v l :=
  World.ownsRow.kept (row := some g) h ⟨rfl, rfl, rfl, by simp [World.setCell], fun k hk hne => Below.heap_setCell _ _ _ _ (fun e => hne (by rw [e]))⟩ (by
    cases hv : v.ownBlock with
    | none => exact .inl rfl
    | some k =>
      refine .inr fun e => ?_
      have := (World.ownsRow.lt h k hv).1
      injection e with e
      omega)
theorem own_drew {e base : Nat} {w : World} {v : Value} {l : List Int} (h : Own1 e base w v l) : Own1 e base w.drew v l := h.bel ((Bel.refl w).drew)
/-- The Bools f in a block. -/
structure RowB (w : World) (b m : Nat) (f : Nat → Bool) : Prop where
  lt : b < w.heap.size
  fz : ∀ i, w.frozen? ⟨b, i, none⟩ = false
  cells : ∀ i, i < m → w.cell? ⟨b, i, none⟩ = some (.bool (f i))
theorem RowB.of_block {w w' : World} {b m : Nat} {f : Nat → Bool} (h : RowB w b m f) (hs : w.heap.size ≤ w'.heap.size) (hb : w'.heap[b]? = w.heap[b]?) : RowB w' b m f := by
  have hc : ∀ j, w'.cell? ⟨b, j, none⟩ = w.cell? ⟨b, j, none⟩ := fun j => World.cell?_of_block (w := w) (a := ⟨b, j, none⟩) hb
  have hf : ∀ j, w'.frozen? ⟨b, j, none⟩ = w.frozen? ⟨b, j, none⟩ := fun j => World.frozen?_of_block (w := w) (a := ⟨b, j, none⟩) hb
  exact ⟨Nat.lt_of_lt_of_le h.lt hs, fun i => (hf i).trans (h.fz i), fun i hi => by rw [hc]; exact h.cells i hi⟩
theorem RowB.congr {w : World} {b m : Nat} {f f' : Nat → Bool} (h : RowB w b m f) (e : ∀ i, i < m → f' i = f i) : RowB w b m f' := ⟨h.lt, h.fz, fun i hi => by rw [e i hi]; exact h.cells i hi⟩
theorem RowB.put {w : World} {b m i : Nat} {f : Nat → Bool} (h : RowB w b m f) (hi : i < m) : RowB (w.setCell ⟨b, i, none⟩ (.bool true)) b m (fun j => if j = i then true else f j) := by
  refine ⟨by simpa [World.setCell] using h.lt, fun j => by rw [World.frozen?_setCell]; exact h.fz j, fun j hj => ?_⟩
  by_cases e : j = i
  · subst e
    rw [if_pos rfl]
    exact World.cell?_setCell_same _ _ _ (h.cells j hi)
  · rw [World.cell?_setCell_other _ _ _ _ (by simp <;> omega), if_neg e]
    exact h.cells j hj
theorem RowB.drew {w : World} {b m : Nat} {f : Nat → Bool} (h : RowB w b m f) : RowB w.drew b m f := h.of_block (Nat.le_refl _) rfl
theorem infoBool : (Try.prog.info? 4).map (fun i => (i.zero, i.size, i.bytes)) = some (some (.bool false), 1, 1) := by kernel_rfl
theorem make_bools (n : Nat) (h : n ≤ 40) (W : World) : (Instr.makeSlice 77 (.int .i64 (n : Int)) (.int .i64 (n : Int))).run Try.prog W = .ok (.slice (some ⟨W.heap.size, 0, none⟩) n n) (W.alloc (.cells (madeCells #[.bool false] n) 4)) :=
  run_make_row' 77 4 (.bool false) 1 Try.underlying77 infoBool rfl .i64 .i64 n (by first | omega | (unfold maxLen; omega)) (by first | omega | (unfold maxLen; omega)) W
theorem rowB_made (w : World) (n : Nat) : RowB (w.alloc (.cells (madeCells #[.bool false] n) 4)) w.heap.size n (fun _ => false) :=
  ⟨by simp, fun i => by simp, fun i hi => by rw [World.cell?_alloc_new]; simp [madeCells, hi, Nat.mod_one]⟩
set_option maxRecDepth 100000 in
set_option maxHeartbeats 4000000 in
theorem rounds_any (n b o c T : Nat) (F : Nat → Nat) (w : World) (hS : Seg w b o n (fun q => ((F q : Nat) : Int))) (hP : Perm F n T) (hn : n ≤ 32) (hT : T ≤ 10000) :
    Calls Try.prog 63 #[.slice (some ⟨b, o, none⟩) n c] w fun e w' => ∃ v, e = .returned v ∧ Bel w w' ∧ Own1 3 (w.heap.size + 1) w' v (rdsTo F T n) := by
  obtain ⟨i0, hi, hz0, hz1, hz2⟩ := info_parts info1I
  have hmk := make_bools n (by omega)
  have HP := Lib.hid hP
  have hrow0 : RowB (w.alloc (.cells (madeCells #[.bool false] n) 4)) w.heap.size n (seenB F T 0) := (rowB_made w n).congr fun i _ => seenB_zero i
  have hbl0 := hS.lt
  clear hP
  go_enter Try.func63, Try.ntmps63
  go_wp2
  go_loopw [3, 5, 6, 7, 13] (fun v _ _ _ i wr => ∃ s : Nat, s ≤ n ∧ i = .int .i64 s ∧ Bel w wr ∧ RowB wr w.heap.size n (seenB F T s) ∧ Own1 3 (w.heap.size + 1) wr v (rdsTo F T s)) (fun _ _ _ _ i _ => n - (intOf i).toNat)
  case atStart => exact ⟨0, Nat.zero_le _, rfl, by (repeat (first | exact Bel.refl _ | assumption | refine Bel.drew ?_ | refine Bel.drewN ?_ _ | refine Bel.alloc ?_ _ | refine Bel.setCell ?_ (by first | omega | (simp; done) | (simp; omega) | (simp at *; omega)) _ | refine Bel.trans ?_ (by assumption))), hrow0, Own1.nil _ _ _⟩
  case round =>
    clear hmk hrow0
    obtain ⟨s, hs, rfl, hb, hrow, hO⟩ := hrel
    by_cases hlt : s < n
    · have hsi : (s : Int) < (n : Int) := by omega
      have hsz := hrow.lt
      have hbs := hb.size
      cases hsn : seenB F T s s
      · obtain ⟨hc1, hc2, hc3⟩ := cycF_ok HP.out hlt
        obtain ⟨C, hC⟩ : ∃ C, C = cycF F T s := ⟨_, rfl⟩
        rw [← hC] at hc1 hc2 hc3
        have HNEW : Hid (∀ m, m < C → seenM F T s m (itF F m s) = false) := fun m hm => seenM_new HP.out hlt hsn (by rw [← hC]; exact hm)
        have HBACK : Hid (seenM F T s C (itF F C s) = true) := by rw [hC]; exact seenM_back HP.out hlt
        have HALL : Hid (∀ q, q < n → seenB F T (s + 1) q = seenM F T s C q) := fun q hq => by rw [hC]; exact (seenM_all HP.out hlt hq).symm
        have HNX : Hid (rdsTo F T (s + 1) = rdsTo F T s ++ [((C : Nat) : Int)]) := by rw [hC]; exact rdsTo_next hsn
        have HLEN := Lib.hid (Nat.le_trans (rdsTo_len F T s) (show s ≤ 32 by omega))
        have hrow' : RowB wr w.heap.size n (seenM F T s 0) := hrow.congr fun q _ => seenM_zero s q
        obtain ⟨ll, hll⟩ : ∃ ll, ll = rdsTo F T s := ⟨_, rfl⟩
        rw [← hll] at hO HNX HLEN
        have HSN := Lib.hid hsn
        have HCC := Lib.hid hC
        clear hsn hC hll hrow hc1
        go_wp2
        go_loopw [6, 7] (fun lv pv wq => ∃ m : Nat, m ≤ C ∧ lv = .int .i64 (m : Int) ∧ pv = .int .i64 ((itF F m s : Nat) : Int) ∧ Bel w wq ∧ RowB wq w.heap.size n (seenM F T s m) ∧ Own1 3 (w.heap.size + 1) wq u3 ll) (fun lv _ _ => C - (intOf lv).toNat)
        case atStart => exact ⟨0, Nat.zero_le _, rfl, rfl, hb, hrow', hO⟩
        case round =>
          clear hrow' hO hb hsz hbs
          obtain ⟨m, hm, rfl, rfl, hbq, hrowq, hOq⟩ := hrel
          have hpl := itF_lt HP.out hlt m
          have hcell := hrowq.cells _ hpl
          have hfzq := hrowq.fz (itF F m s)
          have hsq := hrowq.lt
          have hbc := (hS.bel hbq).cells _ hpl
          have hbl := (hS.bel hbq).lt
          have hpi : ((itF F m s : Nat) : Int) < (n : Int) := by omega
          have HSUC : Hid (∀ q, seenM F T s (m + 1) q = if q = itF F m s then true else seenM F T s m q) := fun q => seenM_succ s m q
          have HFS : Hid (itF F (m + 1) s = F (itF F m s)) := rfl
          have hbg : b ≠ w.heap.size := by omega
          by_cases hmc : m < C
          · have hv := HNEW.out m hmc
            rw [hv] at hcell
            have HPUT := Lib.hid (hrowq.put hpl)
            have hmi : (m : Int) < 10000 := by omega
            obtain ⟨y, hy⟩ : ∃ y, y = itF F m s := ⟨_, rfl⟩
            rw [← hy] at hcell hfzq hbc hpi hpl HSUC HFS HPUT ⊢
            clear hv hy
            go_wp2
            go_roundw
            case rel => exact ⟨m + 1, by omega, by go_num, by rw [HFS.out], by (repeat (first | exact Bel.refl _ | assumption | refine Bel.drew ?_ | refine Bel.drewN ?_ _ | refine Bel.alloc ?_ _ | refine Bel.setCell ?_ (by first | omega | (simp; done) | (simp; omega) | (simp at *; omega)) _ | refine Bel.trans ?_ (by assumption))), by first | exact HPUT.out.congr (fun q _ => HSUC.out q) | exact (HPUT.out.congr (fun q _ => HSUC.out q)).drew, by first | exact own_store hOq (by omega) _ | exact own_drew (own_store hOq (by omega) _)⟩
            case measure => simp [intOf]; omega
          · obtain rfl : m = C := by omega
            have hv := HBACK.out
            rw [hv] at hcell
            generalize itF F m s = y at *
            clear hv
            have hX1 := Lib.hid (show ll.length + 1 ≤ maxLen by have := HLEN.out; unfold maxLen; omega)
            have hX2 := Lib.hid (show (ll.length + 1) * 8 ≤ 140737488355328 by have := HLEN.out; omega)
            have hmp : (m : Int) > 0 := by omega
            go_wp2_with (at_builtin; go_loud (refine wpList_append_lies _ rfl (.tmp 33) (.tmp 35) 22 rfl (w.heap.size + 1) 3 i0 _ 1 8 Try.underlying22 hi hz0 hz1 hz2 rfl (by decide) _ ll.length (ll.map fun x => .int .i64 x) (by rfl) (hOq.alloc _) ⟨wr.heap.size, 0, none⟩ 1 1 [.int .i64 (m : Int)] (by rfl) rfl (new1 wr _ _ _ rfl) (one1 _) (by omega) hX1.out hX2.out (by simp; omega) _ rfl ?_); intro g3 cap3 w3 hown3 hgr3 _ hlt3)
            obtain ⟨hB3, hs3, hblk⟩ := after_app hbq (Nat.le_succ _) hOq (by omega) hgr3
            have hO3 := Own1.snoc hown3
            have hsz3 : wr.heap.size ≤ w3.heap.size := by have := hgr3.size; simp at this; omega
            have hrow3 := hrowq.of_block (w' := w3) hsz3 (hblk _ (by omega))
            clear hown3 hgr3 hlt3 hblk hOq
            go_roundw
            case rel => exact ⟨s + 1, by omega, by go_num, hB3, hrow3.congr (fun q hq => HALL.out q hq), by rw [HNX.out]; exact hO3⟩
            case measure => simp [intOf]; omega
      · have hcell := hrow.cells s hlt
        rw [hsn] at hcell
        have HSK : Hid (∀ q, q < n → seenB F T (s + 1) q = seenB F T s q) := fun q hq => seenB_skip HP.out hlt hq hsn
        have HNX := Lib.hid (rdsTo_skip (F := F) (T := T) hsn)
        clear hsn
        go_wp2
        go_loopw [6, 7] (fun lv pv wq => lv = .int .i64 0 ∧ pv = .int .i64 (s : Int) ∧ Bel w wq ∧ RowB wq w.heap.size n (seenB F T s) ∧ Own1 3 (w.heap.size + 1) wq u3 (rdsTo F T s) ∧ wq.cell? ⟨w.heap.size, s, none⟩ = some (.bool true)) (fun _ _ _ => 0)
        case atStart => exact ⟨rfl, rfl, hb, hrow, hO, hcell⟩
        case round =>
          clear hrow hO hb hsz hbs hcell
          obtain ⟨rfl, rfl, hbq, hrowq, hOq, hcell⟩ := hrel
          have hsq := hrowq.lt
          go_wp2
          go_roundw
          case rel => exact ⟨s + 1, by omega, by go_num, hbq, hrowq.congr (fun q hq => HSK.out q hq), by rw [HNX.out]; exact hOq⟩
          case measure => simp [intOf]; omega
    · obtain rfl : s = n := by omega
      go_wp2
      go_ret
      exact ⟨_, rfl, hb, hO⟩
end Go.Proofs.Ythjjpmcefiddmaa
