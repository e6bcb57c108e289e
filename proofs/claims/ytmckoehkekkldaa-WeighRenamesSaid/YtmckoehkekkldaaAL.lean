/- The program's planOf. -/
import Derived.Test.YtmckoehkekkldaaAK
namespace Go.Proofs.Ytmckoehkekkldaa
open Go.RowKit

/-- The side of a weighing at a place of its cells. -/
def sideAt (P : List Wg) (i : Nat) : List Int := if i % 2 = 0 then (P.getD (i / 2) ([], [])).1 else (P.getD (i / 2) ([], [])).2
/-- What planOf has built: the lots before x are done, and lot x in the weighings before j. -/
def built (P : List Wg) (x j i : Nat) : List Int := below (sideAt P i) (if i / 2 < j then x + 1 else x)
theorem sideAt_of {P : List Wg} {k : Nat} {l r : List Int} (h : P[k]? = some (l, r)) : sideAt P (k * 2) = l ∧ sideAt P (k * 2 + 1) = r := by
  unfold sideAt
  rw [if_pos (by omega), if_neg (by omega), show k * 2 / 2 = k from by omega, show (k * 2 + 1) / 2 = k from by omega, List.getD_eq_getElem?_getD, h]
  exact ⟨rfl, rfl⟩
theorem built_other {P : List Wg} {x j i : Nat} (h : i / 2 ≠ j) : built P x (j + 1) i = built P x j i := by
  unfold built
  by_cases h1 : i / 2 < j
  · rw [if_pos h1, if_pos (by omega)]
  · rw [if_neg h1, if_neg (by omega)]
theorem built_done {P : List Wg} {x i : Nat} (h : i / 2 < P.length) : built P x P.length i = built P (x + 1) 0 i := by
  unfold built
  rw [if_pos h, if_neg (by omega)]
theorem built_zero {P : List Wg} {n : Nat} (hG : ∀ p ∈ P, GoodW n p) (i : Nat) : built P 0 0 i = [] := by
  unfold built
  rw [if_neg (by omega)]
  unfold sideAt
  by_cases h : i / 2 < P.length
  · have hm : (P.getD (i / 2) ([], [])) ∈ P := by
      rw [List.getD_eq_getElem?_getD, List.getElem?_eq_getElem h]
      exact List.getElem_mem h
    have := hG _ hm
    split
    · exact below_zero this.left
    · exact below_zero this.right
  · rw [List.getD_eq_getElem?_getD, List.getElem?_eq_none (by omega)]
    split <;> rfl
theorem built_left {n : Nat} {P : List Wg} {x j : Nat} {p : Wg} (hg : P[j]? = some p) (hw : GoodW n p) : built P x (j + 1) (j * 2) = if hasB p.1 (x : Int) = true then built P x j (j * 2) ++ [(x : Int)] else built P x j (j * 2) := by
  have e1 : built P x (j + 1) (j * 2) = below p.1 (x + 1) := by
    unfold built
    rw [if_pos (by omega), (sideAt_of (l := p.1) (r := p.2) hg).1]
  have e2 : built P x j (j * 2) = below p.1 x := by
    unfold built
    rw [if_neg (by omega), (sideAt_of (l := p.1) (r := p.2) hg).1]
  rw [e1, e2]
  exact below_next (setB_pairwise hw.left)
theorem built_right {n : Nat} {P : List Wg} {x j : Nat} {p : Wg} (hg : P[j]? = some p) (hw : GoodW n p) : built P x (j + 1) (j * 2 + 1) = if hasB p.2 (x : Int) = true then built P x j (j * 2 + 1) ++ [(x : Int)] else built P x j (j * 2 + 1) := by
  have e1 : built P x (j + 1) (j * 2 + 1) = below p.2 (x + 1) := by
    unfold built
    rw [if_pos (by omega), (sideAt_of (l := p.1) (r := p.2) hg).2]
  have e2 : built P x j (j * 2 + 1) = below p.2 x := by
    unfold built
    rw [if_neg (by omega), (sideAt_of (l := p.1) (r := p.2) hg).2]
  rw [e1, e2]
  exact below_next (setB_pairwise hw.right)
theorem sd_one {p : Wg} {x : Int} (h : sd x p = 1) : hasB p.1 x = true ∧ hasB p.2 x = false := by
  unfold sd at h
  split at h
  · omega
  · rename_i h1
    split at h
    · rename_i h2
      exact ⟨h2, by simpa using h1⟩
    · omega
theorem sd_minus {n : Nat} {p : Wg} {x : Int} (hw : GoodW n p) (h : sd x p = -1) : hasB p.1 x = false ∧ hasB p.2 x = true := by
  unfold sd at h
  split at h
  · rename_i h1
    refine ⟨?_, h1⟩
    cases hb : hasB p.1 x
    · rfl
    · have := hw.apart _ (hasB_iff.1 hb)
      rw [h1] at this
      cases this
  · split at h <;> omega
theorem sd_none {p : Wg} {x : Int} (h1 : sd x p ≠ 1) (h2 : sd x p ≠ -1) : hasB p.1 x = false ∧ hasB p.2 x = false := by
  unfold sd at h1 h2
  cases a : hasB p.2 x
  · cases b : hasB p.1 x
    · exact ⟨rfl, rfl⟩
    · rw [a, b] at h1
      simp at h1
  · rw [a] at h2
    simp at h2
/-- Marks of a plan that can be read. -/
def MarksR (w : World) (g n : Nat) (P : List Wg) : Prop := g < w.heap.size ∧ ∀ x, x < n → w.cell? ⟨g, x * 3, none⟩ = some (.int .i64 (markN P (x : Int) 0)) ∧ w.cell? ⟨g, x * 3 + 1, none⟩ = some (.int .i64 (markN P (x : Int) 1)) ∧ w.cell? ⟨g, x * 3 + 2, none⟩ = some (.int .i64 (markN P (x : Int) 2))
theorem sides_new (w : World) (q : Nat) (t : TypeId) (S : Nat → List Int) (hS : ∀ i, S i = []) : Sides (w.heap.size + 1) (w.alloc (.cells (madeCells #[.slice none 0 0, .slice none 0 0] (q * 2)) t)) w.heap.size (q * 2) S (fun _ => .slice none 0 0) := by
  refine ⟨by omega, fun i => by simp, fun i hi => ?_, fun i hi => by rw [hS]; exact Own1.nil _ _ _, fun i j b _ _ _ h => by cases h⟩
  rw [World.cell?_alloc_new]
  have : i % 2 < 2 := Nat.mod_lt _ (by decide)
  simp [madeCells, hi]
  rcases (by omega : i % 2 = 0 ∨ i % 2 = 1) with h | h <;> simp [h]
theorem make_plan (q : Nat) (hq : q ≤ 3) (W : World) : (Instr.makeSlice 22 (.int .i64 (q : Int)) (.int .i64 (q : Int))).run Try.prog W = .ok (.slice (some ⟨W.heap.size, 0, none⟩) q q) (W.alloc (.cells (madeCells #[.slice none 0 0, .slice none 0 0] (q * 2)) 50)) := by
  obtain ⟨i, hi, hzz⟩ := Option.map_eq_some_iff.1 info2W
  simp only [Prod.mk.injEq] at hzz
  obtain ⟨hz1, hz2, hz3⟩ := hzz
  have hr := run_make (P := Try.prog) W 22 50 i _ Try.underlying22 hi hz1 .i64 .i64 q q (by omega) (Int.le_refl _) (by rw [hz3]; omega) (by omega)
  rw [hz2] at hr
  simpa [Value.cells] using hr
set_option maxRecDepth 100000 in
set_option maxHeartbeats 4000000 in
theorem planOf_any (g n q c : Nat) (P : List Wg) (w : World) (hM : MarksR w g n P) (hG : Good n P) (hq : P.length = q) :
    Calls Try.prog 96 #[.slice (some ⟨g, 0, none⟩) n c, .int .i64 (q : Int)] w fun e w' => ∃ b, e = .returned (.slice (some ⟨b, 0, none⟩) q q) ∧ Bel w w' ∧ Plan w.heap.size w' (some ⟨b, 0, none⟩) P := by
  obtain ⟨i0, hi, hz0, hz1, hz2⟩ := info_parts info1I
  have hq3 : q ≤ 3 := by rw [← hq]; exact hG.few
  have hn13 := hG.le
  have HG := Lib.hid hG; have Hq := Lib.hid hq
  have hmk := make_plan q hq3
  have hs0 : Sides (w.heap.size + 1) (w.alloc (.cells (madeCells #[.slice none 0 0, .slice none 0 0] (q * 2)) 50)) w.heap.size (q * 2) (built P 0 0) (fun _ => .slice none 0 0) := sides_new w q _ _ (built_zero HG.out.all)
  have HS0 := Lib.hid hs0
  clear hG hq hs0
  go_enter Try.func96, Try.ntmps96
  go_wp2
  clear hmk
  go_loopw [6, 7, 8, 13] (fun _ _ _ i wr => ∃ x : Nat, x ≤ n ∧ i = .int .i64 x ∧ Bel w wr ∧ w.heap.size + 1 ≤ wr.heap.size ∧ ∃ vs, Sides (w.heap.size + 1) wr w.heap.size (q * 2) (built P x 0) vs) (fun _ _ _ i _ => n - (intOf i).toNat)
  case atStart => exact ⟨0, Nat.zero_le _, rfl, by (repeat (first | exact Bel.refl _ | assumption | refine Bel.drew ?_ | refine Bel.drewN ?_ _ | refine Bel.alloc ?_ _ | refine Bel.setCell ?_ (by first | omega | (simp; done) | (simp; omega) | (simp at *; omega)) _ | refine Bel.trans ?_ (by assumption))), by simp, _, HS0.out⟩
  case round =>
    obtain ⟨x, hx, rfl, hb, hsz, vs0, hs0⟩ := hrel
    by_cases hlt : x < n
    · obtain ⟨hgl, hmm⟩ := hM
      obtain ⟨m0, m1, m2⟩ := hmm x hlt
      have c0 : wr.cell? ⟨g, x * 3, none⟩ = _ := (hb.use.1 _ _ hgl).trans m0
      have c1 : wr.cell? ⟨g, x * 3 + 1, none⟩ = _ := (hb.use.1 _ _ hgl).trans m1
      have c2 : wr.cell? ⟨g, x * 3 + 2, none⟩ = _ := (hb.use.1 _ _ hgl).trans m2
      obtain ⟨wo, hwo⟩ : ∃ wo : World, wo = wr := ⟨_, rfl⟩
      subst hwo
      have hxi : (x : Int) < (n : Int) := by omega
      have hbox := row3 wo (markN P (x : Int)) 78
      have hsA := hs0.gt (W := wo.alloc (.cells #[.int .i64 (markN P (x : Int) 0), .int .i64 (markN P (x : Int) 1), .int .i64 (markN P (x : Int) 2)] 78)) ((Bel.refl wo).alloc _) (by omega)
      have hnb0 : ∀ i b, i < q * 2 → (vs0 i).ownBlock = some b → b ≠ wo.heap.size := fun i b hi hb' => by have := (World.ownsRow.lt (hs0.own i hi) b hb').2; omega
      have HBOX := Lib.hid hbox; have HSA := Lib.hid hsA; have HNB0 := Lib.hid hnb0
      clear hbox hsA hnb0 hs0 m0 m1 m2
      go_wp2
      go_loopw [8, 20] (fun _ i wr => ∃ j : Nat, j ≤ q ∧ i = .int .i64 j ∧ Bel w wr ∧ wo.heap.size + 1 ≤ wr.heap.size ∧ Row wr wo.heap.size 3 3 (markN P (x : Int)) ∧ ∃ vs, Sides (w.heap.size + 1) wr w.heap.size (q * 2) (built P x j) vs ∧ ∀ i b, i < q * 2 → (vs i).ownBlock = some b → b ≠ wo.heap.size) (fun _ i _ => q - (intOf i).toNat)
      case atStart => exact ⟨0, Nat.zero_le _, rfl, by (repeat (first | exact Bel.refl _ | assumption | refine Bel.drew ?_ | refine Bel.drewN ?_ _ | refine Bel.alloc ?_ _ | refine Bel.setCell ?_ (by first | omega | (simp; done) | (simp; omega) | (simp at *; omega)) _ | refine Bel.trans ?_ (by assumption))), by simp, HBOX.out, _, HSA.out, HNB0.out⟩
      case round =>
        clear c0 c1 c2
        obtain ⟨j, hj, rfl, hbj, hsj, hbox, vs, hs, hnb⟩ := hrel
        by_cases hjl : j < q
        · obtain ⟨p, hgj⟩ : ∃ p, P[j]? = some p := ⟨P[j]'(by rw [Hq.out]; exact hjl), List.getElem?_eq_getElem _⟩
          have hw := HG.out.all p (List.mem_of_getElem? hgj)
          have hji : (j : Int) < (q : Int) := by omega
          have hj3 : (j : Int) < 3 := by omega
          have hj0 : (0 : Int) ≤ (j : Int) := by omega
          have hbk := hbox.cells j (by omega)
          rw [markN_at hgj] at hbk
          have HBX := Lib.hid hbox
          clear hbox
          by_cases h1 : sd (x : Int) p = 1
          · have hsdv := h1
            obtain ⟨x1, x2⟩ := sd_one h1
            have hbl := built_left (x := x) hgj hw; have hbr := built_right (x := x) hgj hw
            rw [x1] at hbl
            rw [x2] at hbr
            have hown1 := hs.own (j * 2) (by omega)
            have hlen : (built P x j (j * 2)).length ≤ 13 := by
              unfold built
              refine Nat.le_trans (List.length_filter_le _ _) ?_
              rw [(sideAt_of (l := p.1) (r := p.2) hgj).1]
              exact Nat.le_trans (setB_len hw.left) hn13
            obtain ⟨ll, hll⟩ : ∃ ll, ll = built P x j (j * 2) := ⟨_, rfl⟩
            rw [← hll] at hown1 hlen
            have hc1 := hs.cells (j * 2) (by omega)
            obtain ⟨v, hv⟩ : ∃ v, v = vs (j * 2) := ⟨_, rfl⟩
            rw [← hv] at hown1 hc1
            have hX1 := Lib.hid (show ll.length + 1 ≤ maxLen by unfold maxLen; omega)
            have hX2 := Lib.hid (show (ll.length + 1) * 8 ≤ 140737488355328 by omega)
            have HLL := Lib.hid hll; have HV := Lib.hid hv
            have HBL := Lib.hid hbl; have HBR := Lib.hid hbr
            have HGJ := Lib.hid hgj; have HW := Lib.hid hw; have HSS := Lib.hid hs; have HNB := Lib.hid hnb
            clear hll hv hbl hbr hgj hw hnb x1 x2
            rw [hsdv] at hbk
            go_wp2_with (at_builtin; go_loud (refine wpList_append_lies _ rfl (.tmp 34) (.tmp 36) 28 rfl (w.heap.size + 1) 3 i0 _ 1 8 Try.underlying28 hi hz0 hz1 hz2 rfl (by decide) v ll.length (ll.map fun x => .int .i64 x) (by rfl) (World.ownsRow.alloc hown1 _) ⟨wr.heap.size, 0, none⟩ 1 1 [.int .i64 (x : Int)] (by rfl) rfl (new1 wr _ _ _ rfl) (one1 _) (by omega) hX1.out hX2.out (by simp <;> omega) _ rfl ?_); intro g3 cap3 w3 hown3 hgr3 hat3 hlt3; have hblk : w3.heap[w.heap.size]? = wr.heap[w.heap.size]? := (hgr3.block w.heap.size (by simp; omega) (fun e => by have h5 := (World.ownsRow.lt hown1 w.heap.size e.symm).1; omega)).trans (Below.heap_alloc _ _ _ (by omega)); have hcell3 : w3.cell? ⟨w.heap.size, j * 2, none⟩ = some v := (by rw [World.cell?_of_block (w := wr) hblk]; exact hc1); have hfz3 : w3.frozen? ⟨w.heap.size, j * 2, none⟩ = false := (by rw [World.frozen?_of_block (w := wr) hblk]; exact HSS.out.fz _); have hlt9 : w.heap.size < w3.heap.size := (by have h7 := hgr3.size; simp at h7; omega))
            have hbW3 : Bel w w3 := grown_own (w := w) (hbj.alloc _) hown1 (by omega) hgr3
            have hO3 := Own1.snoc hown3
            have hbox3 : Row w3 wo.heap.size 3 3 (markN P (x : Int)) := HBX.out.of_block (Nat.le_trans (by simp) hgr3.size) ((hgr3.block wo.heap.size (by simp; omega) (fun e => by rw [HV.out] at e; exact HNB.out _ _ (by omega) e.symm rfl)).trans (Below.heap_alloc _ _ _ (by omega)))
            obtain ⟨vs', hs', hvs'⟩ := (HSS.out.gt (W := wr.alloc (.cells #[.int .i64 (x : Int)] 3)) ((Bel.refl wr).alloc _) (by omega)).step (S' := built P x (j + 1)) (i := j * 2) (by omega) (x := (x : Int)) (v' := .slice (some ⟨g3, 0, none⟩) (ll.length + 1) cap3) (w3 := w3) (by simp; omega) (HBL.out)
              (fun k hk => by
                by_cases e : k / 2 = j
                · have e2 : k = j * 2 + 1 := by omega
                  rw [e2]
                  exact HBR.out
                · exact built_other e) (by rw [← HLL.out]; exact hO3) (by rw [← HV.out]; exact hgr3) (by rw [← HV.out]; rcases hat3 with e | e; exact .inl (by rw [e]; rfl); exact .inr (fun b hb' => by have e3 : some g3 = some b := hb'; injection e3 with e3; omega))
            have HS' := Lib.hid hs'
            have HNB' : Hid (∀ i b, i < q * 2 → (vs' i).ownBlock = some b → b ≠ wo.heap.size) := fun i b hi' hb' => by
              rcases hvs' i b hb' with h | h
              · exact HNB.out i b hi' h
              · simp at h
                omega
            have HB3 := Lib.hid (show Bel w (w3.setCell ⟨w.heap.size, j * 2, none⟩ (.slice (some ⟨g3, 0, none⟩) (ll.length + 1) cap3)) from hbW3.setCell (p := ⟨w.heap.size, j * 2, none⟩) (Nat.le_refl _) _)
            have hs3 := Nat.le_trans (show wr.heap.size ≤ (wr.alloc (.cells #[.int .i64 (x : Int)] 3)).heap.size by simp) hgr3.size
            have HBX3 := Lib.hid (hbox3.far (p := ⟨w.heap.size, j * 2, none⟩) (by simp; omega) (.slice (some ⟨g3, 0, none⟩) (ll.length + 1) cap3))
            clear hown3 hgr3 hat3 hO3 hown1 hc1 hs hs' hvs' hbox3 hbk
            go_roundw
            case rel => exact ⟨j + 1, by omega, by go_num, HB3.out, by simp [World.setCell]; omega, HBX3.out, vs', HS'.out, HNB'.out⟩
            case measure => simp [intOf]; omega
          · by_cases h2 : sd (x : Int) p = -1
            · have hsdv := h2
              obtain ⟨x1, x2⟩ := sd_minus hw h2
              have hbl := built_left (x := x) hgj hw; have hbr := built_right (x := x) hgj hw
              rw [x1] at hbl
              rw [x2] at hbr
              have hown1 := hs.own (j * 2 + 1) (by omega)
              have hlen : (built P x j (j * 2 + 1)).length ≤ 13 := by
                unfold built
                refine Nat.le_trans (List.length_filter_le _ _) ?_
                rw [(sideAt_of (l := p.1) (r := p.2) hgj).2]
                exact Nat.le_trans (setB_len hw.right) hn13
              obtain ⟨ll, hll⟩ : ∃ ll, ll = built P x j (j * 2 + 1) := ⟨_, rfl⟩
              rw [← hll] at hown1 hlen
              have hc1 := hs.cells (j * 2 + 1) (by omega)
              obtain ⟨v, hv⟩ : ∃ v, v = vs (j * 2 + 1) := ⟨_, rfl⟩
              rw [← hv] at hown1 hc1
              have hX1 := Lib.hid (show ll.length + 1 ≤ maxLen by unfold maxLen; omega)
              have hX2 := Lib.hid (show (ll.length + 1) * 8 ≤ 140737488355328 by omega)
              have HLL := Lib.hid hll; have HV := Lib.hid hv
              have HBL := Lib.hid hbl; have HBR := Lib.hid hbr
              have HGJ := Lib.hid hgj; have HW := Lib.hid hw; have HSS := Lib.hid hs; have HNB := Lib.hid hnb
              clear hll hv hbl hbr hgj hw hnb x1 x2
              rw [hsdv] at hbk
              go_wp2_with (at_builtin; go_loud (refine wpList_append_lies _ rfl (.tmp 48) (.tmp 50) 28 rfl (w.heap.size + 1) 3 i0 _ 1 8 Try.underlying28 hi hz0 hz1 hz2 rfl (by decide) v ll.length (ll.map fun x => .int .i64 x) (by rfl) (World.ownsRow.alloc hown1 _) ⟨wr.heap.size, 0, none⟩ 1 1 [.int .i64 (x : Int)] (by rfl) rfl (new1 wr _ _ _ rfl) (one1 _) (by omega) hX1.out hX2.out (by simp <;> omega) _ rfl ?_); intro g3 cap3 w3 hown3 hgr3 hat3 hlt3; have hblk : w3.heap[w.heap.size]? = wr.heap[w.heap.size]? := (hgr3.block w.heap.size (by simp; omega) (fun e => by have h5 := (World.ownsRow.lt hown1 w.heap.size e.symm).1; omega)).trans (Below.heap_alloc _ _ _ (by omega)); have hcell3 : w3.cell? ⟨w.heap.size, j * 2 + 1, none⟩ = some v := (by rw [World.cell?_of_block (w := wr) hblk]; exact hc1); have hfz3 : w3.frozen? ⟨w.heap.size, j * 2 + 1, none⟩ = false := (by rw [World.frozen?_of_block (w := wr) hblk]; exact HSS.out.fz _); have hlt9 : w.heap.size < w3.heap.size := (by have h7 := hgr3.size; simp at h7; omega))
              have hbW3 : Bel w w3 := grown_own (w := w) (hbj.alloc _) hown1 (by omega) hgr3
              have hO3 := Own1.snoc hown3
              have hbox3 : Row w3 wo.heap.size 3 3 (markN P (x : Int)) := HBX.out.of_block (Nat.le_trans (by simp) hgr3.size) ((hgr3.block wo.heap.size (by simp; omega) (fun e => by rw [HV.out] at e; exact HNB.out _ _ (by omega) e.symm rfl)).trans (Below.heap_alloc _ _ _ (by omega)))
              obtain ⟨vs', hs', hvs'⟩ := (HSS.out.gt (W := wr.alloc (.cells #[.int .i64 (x : Int)] 3)) ((Bel.refl wr).alloc _) (by omega)).step (S' := built P x (j + 1)) (i := j * 2 + 1) (by omega) (x := (x : Int)) (v' := .slice (some ⟨g3, 0, none⟩) (ll.length + 1) cap3) (w3 := w3) (by simp; omega) (HBR.out)
                (fun k hk => by
                  by_cases e : k / 2 = j
                  · have e2 : k = j * 2 := by omega
                    rw [e2]
                    exact HBL.out
                  · exact built_other e) (by rw [← HLL.out]; exact hO3) (by rw [← HV.out]; exact hgr3) (by rw [← HV.out]; rcases hat3 with e | e; exact .inl (by rw [e]; rfl); exact .inr (fun b hb' => by have e3 : some g3 = some b := hb'; injection e3 with e3; omega))
              have HS' := Lib.hid hs'
              have HNB' : Hid (∀ i b, i < q * 2 → (vs' i).ownBlock = some b → b ≠ wo.heap.size) := fun i b hi' hb' => by
                rcases hvs' i b hb' with h | h
                · exact HNB.out i b hi' h
                · simp at h
                  omega
              have HB3 := Lib.hid (show Bel w (w3.setCell ⟨w.heap.size, j * 2 + 1, none⟩ (.slice (some ⟨g3, 0, none⟩) (ll.length + 1) cap3)) from hbW3.setCell (p := ⟨w.heap.size, j * 2 + 1, none⟩) (Nat.le_refl _) _)
              have hs3 := Nat.le_trans (show wr.heap.size ≤ (wr.alloc (.cells #[.int .i64 (x : Int)] 3)).heap.size by simp) hgr3.size
              have HBX3 := Lib.hid (hbox3.far (p := ⟨w.heap.size, j * 2 + 1, none⟩) (by simp; omega) (.slice (some ⟨g3, 0, none⟩) (ll.length + 1) cap3))
              clear hown3 hgr3 hat3 hO3 hown1 hc1 hs hs' hvs' hbox3 hbk
              go_roundw
              case rel => exact ⟨j + 1, by omega, by go_num, HB3.out, by simp [World.setCell]; omega, HBX3.out, vs', HS'.out, HNB'.out⟩
              case measure => simp [intOf]; omega

            · obtain ⟨x1, x2⟩ := sd_none h1 h2
              have hbl := built_left (x := x) hgj hw; have hbr := built_right (x := x) hgj hw
              rw [x1, if_neg (by decide)] at hbl
              rw [x2, if_neg (by decide)] at hbr
              have HS' : Hid (Sides (w.heap.size + 1) wr w.heap.size (q * 2) (built P x (j + 1)) vs) := by
                have e : built P x (j + 1) = built P x j := by
                  funext k
                  by_cases e : k / 2 = j
                  · rcases (by omega : k = j * 2 ∨ k = j * 2 + 1) with rfl | rfl
                    · exact hbl
                    · exact hbr
                  · exact built_other e
                rw [e]
                exact hs
              have HNB := Lib.hid hnb
              obtain ⟨z, hz⟩ : ∃ z, z = sd (x : Int) p := ⟨_, rfl⟩
              rw [← hz] at h1 h2 hbk
              have hz1' : (z == 1) = false := by simpa using h1
              have hz2' : (z == -1) = false := by simpa using h2
              clear hz hbl hbr x1 x2 hs hnb hgj hw
              go_wp2
              go_roundw
              case rel => exact ⟨j + 1, by omega, by go_num, hbj, hsj, HBX.out, vs, HS'.out, HNB.out⟩
              case measure => simp [intOf]; omega
        · obtain rfl : j = q := by omega
          have HS' : Hid (Sides (w.heap.size + 1) wr w.heap.size (j * 2) (built P (x + 1) 0) vs) :=
            ⟨hs.lt, hs.fz, hs.cells, fun i hi' => by rw [← built_done (by rw [Hq.out]; omega), Hq.out]; exact hs.own i hi', hs.apart⟩
          clear hs hbox hnb
          go_wp2
          go_roundw
          case rel => exact ⟨x + 1, by omega, by go_num, hbj, by omega, vs, HS'.out⟩
          case measure => simp [intOf]; omega
    · obtain rfl : x = n := by omega
      have HP : Hid (Plan w.heap.size wr (some ⟨w.heap.size, 0, none⟩) P) := by
        refine .inr ⟨w.heap.size, 0, rfl, Nat.le_refl _, by omega, fun j l r hj => ?_⟩
        have hl := (List.getElem?_eq_some_iff.1 hj).1
        rw [Hq.out] at hl
        have hw := HG.out.all _ (List.mem_of_getElem? hj)
        obtain ⟨e1, e2⟩ := sideAt_of hj
        have b1 : built P x 0 (j * 2) = l := by unfold built; rw [if_neg (by omega), e1]; exact below_all hw.left
        have b2 : built P x 0 (j * 2 + 1) = r := by unfold built; rw [if_neg (by omega), e2]; exact below_all hw.right
        have o1 := hs0.own (j * 2) (by omega)
        have o2 := hs0.own (j * 2 + 1) (by omega)
        rw [b1] at o1
        rw [b2] at o2
        have k1 := hs0.cells (j * 2) (by omega)
        have k2 := hs0.cells (j * 2 + 1) (by omega)
        have t1 := fun b hb' => (World.ownsRow.lt o1 b hb').1
        have t2 := fun b hb' => (World.ownsRow.lt o2 b hb').1
        obtain ⟨A1, n1, c1, f1, hn1, hI1⟩ := o1.form
        obtain ⟨A2, n2, c2, f2, hn2, hI2⟩ := o2.form
        rw [f1] at k1 t1
        rw [f2] at k2 t2
        have l1 := setB_len hw.left
        have l2 := setB_len hw.right
        simp only at l1 l2
        refine ⟨A1, n1, c1, A2, n2, c2, by rw [Nat.zero_add]; exact k1, by rw [Nat.zero_add]; exact k2, hI1, hn1.symm, by unfold maxLen; omega, fun b' o' e => by have := t1 b' (by rw [e]; rfl); omega, hI2, hn2.symm, by unfold maxLen; omega, fun b' o' e => by have := t2 b' (by rw [e]; rfl); omega⟩
      clear hs0
      go_wp2
      go_ret
      exact ⟨_, rfl, hb, HP.out⟩
end Go.Proofs.Ytmckoehkekkldaa
