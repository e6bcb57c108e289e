/- Rename of the document. -/
import Derived.Test.YtmklpldmgmjlkaaTI
import Derived.Test.YtmklpldmgmjlkaaRB
namespace Go.Proofs.Ytmklpldmgmjlkaa
open Go.RowKit

theorem hitB_next {to l : List Int} {j : Nat} {u : Int} (h : l[j]? = some u) (y : Nat) : hitB to (l.take (j + 1)) y = (hitB to (l.take j) y || decide (toN to u.toNat = y)) := by
  unfold hitB
  rw [take_at h, List.any_append]
  simp
theorem infoBool : (Try.prog.info? 4).map (fun i => (i.zero, i.size, i.bytes)) = some (some (.bool false), 1, 1) := by kernel_rfl
/-- Block b holds m answers yes or no, f. -/
structure RowB (w : World) (b m : Nat) (f : Nat → Bool) : Prop where
  lt : b < w.heap.size
  fz : ∀ i, w.frozen? ⟨b, i, none⟩ = false
  cells : ∀ i, i < m → w.cell? ⟨b, i, none⟩ = some (.bool (f i))
theorem RowB.bel {w w' : World} {b m : Nat} {f : Nat → Bool} (h : RowB w b m f) (hb : Bel w w') : RowB w' b m f :=
  ⟨Nat.lt_of_lt_of_le h.lt hb.size, fun i => by rw [hb.use.2.1 _ _ h.lt]; exact h.fz i, fun i hi => by rw [hb.use.1 _ _ h.lt]; exact h.cells i hi⟩
theorem RowB.put {w : World} {b m i : Nat} {f f' : Nat → Bool} (h : RowB w b m f) (hi : i < m) (he : ∀ j, f' j = (f j || decide (i = j))) : RowB (w.setCell ⟨b, i, none⟩ (.bool true)) b m f' := by
  refine ⟨by simpa [World.setCell] using h.lt, fun j => by rw [World.frozen?_setCell]; exact h.fz j, fun j hj => ?_⟩
  by_cases e : i = j
  · subst e
    rw [World.cell?_setCell_same _ _ _ (h.cells i hi), he, decide_eq_true rfl, Bool.or_true]
  · rw [World.cell?_setCell_other _ _ _ _ (by simp <;> omega), he, decide_eq_false e, Bool.or_false]
    exact h.cells j hj
theorem RowB.new (w : World) (t : TypeId) (m : Nat) : RowB (w.alloc (.cells (madeCells #[.bool false] m) t)) w.heap.size m (fun _ => false) :=
  ⟨by simp, fun i => by simp, fun i hi => by
    rw [World.cell?_alloc_new]
    simp [madeCells, hi, Nat.mod_one]⟩
theorem renL_take {to : List Int} {g k : Nat} {L : List An} {ns : List Int} {y : Bool} (h : L[k]? = some (ns, y)) : (renL to g L).take (k + 1) = (renL to g L).take k ++ [(imgL to g ns, y)] := take_at (renL_at h)
/-- What the document's Rename returns, where it returns answers. -/
def Renamed (w : World) (L : List An) (e : Ending) (w' : World) : Prop := ∃ v, e = .returned (.tuple #[v, .int .i64 0]) ∧ OwnA w.heap.size w' v L ∧ Bel w w'
set_option maxRecDepth 100000 in
set_option maxHeartbeats 4000000 in
theorem rRename_ok (g : Nat) (A : Option Addr) (n c : Nat) (L : List An) (B : Option Addr) (d : Nat) (to : List Int) (w : World) (hR : Ans w A L) (hn : L.length = n) (he : errA (g : Int) L = 0) (hJ : Ints w B to) (hN : Renum g to) :
    Calls Try.prog 11 #[.int .i64 (g : Int), .slice A n c, .slice B g d] w (Renamed w (renL to g L)) := by
  obtain ⟨i0, hi, hz0, hz1, hz2⟩ := info_parts info2A
  obtain ⟨i1, hj, hj0, hj1, hj2⟩ := info_parts info1I
  obtain ⟨⟨g1, g2⟩, h12, -⟩ := errA_zero he
  have hg16 : g ≤ 16 := by omega
  have hn12 : n ≤ 12 := by omega
  have hmk : ∀ W : World, (Instr.makeSlice 45 (.int .i64 (g : Int)) (.int .i64 (g : Int))).run Try.prog W = .ok (.slice (some ⟨W.heap.size, 0, none⟩) g g) (W.alloc (.cells (madeCells #[.bool false] g) 4)) :=
    fun W => run_make_row' 45 4 (.bool false) 1 Try.underlying45 infoBool rfl .i64 .i64 g (by first | omega | (unfold maxLen; omega)) (by first | omega | (unfold maxLen; omega)) W
  have Hn := Lib.hid hn; have HE := Lib.hid he; have HN := Lib.hid hN
  have HSE := Lib.hid (errA_sets he)
  have HD := Lib.hid (decide_eq_true hN)
  have HLEN := Lib.hid (renL_length to g L)
  clear hn he h12 hN
  go_enter Try.func11, Try.ntmps11
  go_wp2_with fail
  refine (rValidate_any g A n c L _ hR Hn.out (by unfold maxLen; omega)).mono ?_
  rintro e w1 ⟨rfl, hb1⟩
  rw [HE.out]
  go_wp2_with fail
  refine (isOrder_any B g d g to _ (hJ.bel hb1) HN.out.len (by unfold maxLen; omega)).mono ?_
  rintro e w2 ⟨rfl, rfl⟩
  rw [HD.out]
  go_wp2
  go_loopw [9, 10, 11, 12, 13, 14] (fun v i _ _ _ _ wr => ∃ k : Nat, k ≤ n ∧ i = .int .i64 k ∧ Bel w wr ∧ OwnA w.heap.size wr v ((renL to g L).take k)) (fun _ i _ _ _ _ _ => n - (intOf i).toNat)
  case atStart => exact ⟨0, Nat.zero_le _, rfl, hb1, OwnA.nil _ _⟩
  case round =>
    obtain ⟨k, hk, rfl, hb, hO⟩ := hrel
    by_cases hlt : k < n
    · obtain ⟨a1, a2, ns, y, A', n', c', rfl, hbl, hg, hc1, hc2, hI, hl', hm'⟩ := (hR.bel hb).at_ (k := k) (by rw [Hn.out]; exact hlt)
      have hset : setB ns (g : Int) = true := HSE.out (ns, y) (List.mem_of_getElem? hg)
      have HSET := Lib.hid hset
      obtain ⟨vs, hO⟩ := hO
      have hlen : Hid (((renL to g L).take k).length = k) := by show _ = _; rw [List.length_take, HLEN.out, Hn.out]; omega
      have hO1 := hO.own
      rw [hlen.out] at hO1
      have hX1 := Lib.hid (show k + 1 ≤ maxLen by unfold maxLen; omega)
      have hX2 := Lib.hid (show (k + 1) * 32 ≤ 140737488355328 by omega)
      have HS := Lib.hid (renL_take (to := to) (g := g) hg)
      have HL := Lib.hid hl'
      have hkn : (k : Int) < (n : Int) := by omega
      have hk0 : (0 : Int) ≤ (k : Int) := by omega
      have hm63 : (n' : Int) ≤ 9223372036854775807 := by unfold maxLen at hm'; omega
      obtain ⟨wo, hwo⟩ : ∃ wo : World, wo = wr := ⟨_, rfl⟩
      subst hwo
      have held : ∀ w', Bel wo w' → w'.cell? ⟨a1, a2 + k * 2, none⟩ = some (.slice A' n' c') ∧ w'.cell? ⟨a1, a2 + k * 2 + 1, none⟩ = some (.bool y) := fun w' h => ⟨by rw [h.use.1 _ _ hbl]; exact hc1, by rw [h.use.1 _ _ hbl]; exact hc2⟩
      have Held := Lib.hid held
      have HRB := Lib.hid (RowB.new wo 4 g)
      have hJw := hJ.bel hb
      clear hg hl' held hc1 hc2 hset
      go_wp2
      clear hmk
      go_loopw [12] (fun i wr => ∃ j : Nat, j ≤ n' ∧ i = .int .i64 j ∧ Bel wo wr ∧ RowB wr wo.heap.size g (hitB to (ns.take j))) (fun i _ => n' - (intOf i).toNat)
      case atStart => exact ⟨0, Nat.zero_le _, rfl, (Bel.refl wo).alloc _, HRB.out⟩
      case round =>
        clear HRB
        obtain ⟨j, hj', rfl, hb2, hrb⟩ := hrel
        obtain ⟨hf1, hf2⟩ := Held.out wr hb2
        by_cases hjg : j < n'
        · obtain ⟨b, o, u, rfl, hbu, hgu, hcu⟩ := (hI.bel hb2).at_ (k := j) (by rw [HL.out]; exact hjg)
          have hur := set_in HSET.out (List.mem_of_getElem? hgu)
          obtain ⟨un, rfl⟩ : ∃ un : Nat, u = (un : Int) := ⟨u.toNat, by omega⟩
          have hun : un < g := by omega
          obtain ⟨b2, o2, z, rfl, hbl2, hg2, hc2⟩ := (hJw.bel hb2).at_ (k := un) (by rw [HN.out.len]; exact hun)
          obtain ⟨hat, htn⟩ := HN.out.at_ hun
          rw [hg2] at hat
          have hze : z = (toN to un : Int) := Option.some.inj hat
          subst hze
          have hput := hrb.put htn (f' := hitB to (ns.take (j + 1))) (fun y => by rw [hitB_next hgu]; simp)
          have HPUT := Lib.hid hput
          obtain ⟨t, ht⟩ : ∃ t, t = toN to un := ⟨_, rfl⟩
          have hcell := hrb.cells _ htn
          have hfz := hrb.fz (toN to un)
          have hbl3 := hrb.lt
          rw [← ht] at htn hcell hfz hc2 HPUT
          have hji : (j : Int) < (n' : Int) := by omega
          have hj0 : (0 : Int) ≤ (j : Int) := by omega
          have hu0 : (0 : Int) ≤ (un : Int) := by omega
          have hui : (un : Int) < (g : Int) := by omega
          have ht0 : (0 : Int) ≤ (t : Int) := by omega
          have hti : (t : Int) < (g : Int) := by omega
          clear hgu hg2 hat ht hput hrb hur
          go_wp2
          go_roundw
          case rel => exact ⟨j + 1, by omega, by go_num, hb2.setCell (p := ⟨wo.heap.size, t, none⟩) (Nat.le_refl _) _, HPUT.out⟩
          case measure => simp [intOf]; omega
        · obtain rfl : n' = j := by omega
          have hall : ns.take n' = ns := List.take_of_length_le (by rw [HL.out]; omega)
          rw [hall] at hrb
          have HRB := Lib.hid hrb
          obtain ⟨wa, hwa⟩ : ∃ wa : World, wa = wr := ⟨_, rfl⟩
          subst hwa
          clear hrb hall
          go_wp2
          go_loopw [13, 14] (fun u i wr => ∃ y : Nat, y ≤ g ∧ i = .int .i64 y ∧ Bel wa wr ∧ Own1 3 wa.heap.size wr u (lotsF (hitB to ns) y)) (fun _ i _ => g - (intOf i).toNat)
          case atStart => exact ⟨0, Nat.zero_le _, rfl, Bel.refl _, Own1.nil _ _ _⟩
          case round =>
            clear hf1 hf2
            obtain ⟨x, hx, rfl, hb3, ho⟩ := hrel
            have hsz := hb3.size
            have hrb3 := HRB.out.bel hb3
            by_cases hxg : x < g
            · have hcx := hrb3.cells x hxg
              have hxi : (x : Int) < (g : Int) := by omega
              have hx0 : (0 : Int) ≤ (x : Int) := by omega
              have HSN := Lib.hid (lotsF_snoc (hitB to ns) x)
              have hl := lotsF_len (hitB to ns) x
              obtain ⟨l, hll⟩ : ∃ l, l = lotsF (hitB to ns) x := ⟨_, rfl⟩
              rw [← hll] at ho hl
              have HL2 := Lib.hid hll
              clear hll hrb3
              cases hh : hitB to ns x
              · rw [hh] at hcx
                have HQ : Hid (lotsF (hitB to ns) (x + 1) = l) := by show _ = _; rw [HSN.out, hh, HL2.out]; rfl
                clear hh
                go_wp2
                go_roundw
                case rel => exact ⟨x + 1, by omega, by go_num, hb3, by rw [HQ.out]; exact ho⟩
                case measure => simp [intOf]; omega
              · rw [hh] at hcx
                have HQ : Hid (lotsF (hitB to ns) (x + 1) = l ++ [(x : Int)]) := by show _ = _; rw [HSN.out, hh, HL2.out]; rfl
                have hX3 := Lib.hid (show l.length + 1 ≤ maxLen by unfold maxLen; omega)
                have hX4 := Lib.hid (show (l.length + 1) * 8 ≤ 140737488355328 by omega)
                clear hh
                go_wp2_with (at_builtin; go_loud (refine wpList_append_lies _ rfl (.tmp 65) (.tmp 67) 23 rfl wa.heap.size 3 i1 _ 1 8 Try.underlying23 hj hj0 hj1 hj2 rfl (by decide) u13 l.length (l.map fun x => .int .i64 x) (by rfl) (ho.alloc _) ⟨wr.heap.size, 0, none⟩ 1 1 [.int .i64 (x : Int)] (by rfl) rfl (new1 wr _ _ _ rfl) (one1 _) (by omega) hX3.out hX4.out (Nat.le_trans hsz (by simp)) _ rfl ?_); intro g3 cap3 w3 hown3 hgr3 _ hlt3)
                obtain ⟨hB3, hs3, hblk⟩ := after_app hb3 (Nat.le_refl _) ho hsz hgr3
                have hO3 := Own1.snoc hown3
                clear hown3 hgr3 hlt3 hblk hb3 ho
                go_wp2
                go_roundw
                case rel => exact ⟨x + 1, by omega, by go_num, hB3, by rw [HQ.out]; exact hO3⟩
                case measure => simp [intOf]; omega
            · obtain rfl : g = x := by omega
              have hlt1 := fun b hb => World.ownsRow.lt ho b hb
              obtain ⟨A2, n2, c2, rfl, hn2, hI2⟩ := ho.form
              have HN2 := Lib.hid hn2
              have hn16 : n2 ≤ 16 := by have := lotsF_len (hitB to ns) g; omega
              have hbo := hb2.trans hb3
              have hO2 := hO.bel hbo
              have hO21 := hO2.own
              rw [hlen.out] at hO21
              have hsw := hb.size
              have hso2 := hb2.size
              obtain ⟨hf1, hf2⟩ := Held.out wr hbo
              clear hn2 ho hrb3
              go_wp2_with (at_builtin; go_loud (refine wpList_append_lies _ rfl (.tmp 69) (.tmp 77) 22 rfl w.heap.size 30 i0 _ 2 32 Try.underlying22 hi hz0 hz1 hz2 rfl (by decide) u9 k vs (by rfl) (World.ownsRow.alloc hO21 _) ⟨wr.heap.size, 0, none⟩ 1 1 [.slice A2 n2 c2, .bool y] (by rfl) rfl (new2 _ _ _ _ _ rfl) (one2 _ _ _ _) (by omega) hX1.out hX2.out (by simp <;> omega) _ rfl ?_); intro g3 cap3 w3 hown3 hgr3 hat3 hlt3)
              have hO3 := OwnV.snoc (g := g3) (hO2.bel ((Bel.refl wr).alloc _)) (hI2.bel ((Bel.refl wr).alloc _)) HN2.out.symm (by unfold maxLen; omega) (fun b o hA => by
                  subst hA
                  obtain ⟨k1, k2⟩ := hlt1 b rfl
                  refine ⟨by simp <;> omega, fun e => ?_⟩
                  have h1 := (World.ownsRow.lt hO1 _ e).2
                  omega) (by rw [hlen.out]; exact hown3) hgr3 (by rw [hlen.out] at *; simpa using hat3)
              have hB3 := grown_own (w := w) ((hb.trans hbo).alloc _) hO21 (Nat.le_refl _) hgr3
              rw [hlen.out] at hO3
              have HO3 := Lib.hid hO3
              clear hown3 hgr3 hat3 hlt3 hO3
              go_wp2
              go_roundw
              case rel => exact ⟨k + 1, by omega, by go_num, hB3, by rw [HS.out]; exact HO3.out⟩
              case measure => simp [intOf]; omega
    · obtain rfl : k = n := by omega
      have ht : Hid ((renL to g L).take k = renL to g L) := List.take_of_length_le (by rw [HLEN.out, Hn.out]; omega)
      rw [ht.out] at hO
      go_wp2
      go_ret2
      exact ⟨_, rfl, hO, hb⟩
set_option maxRecDepth 100000 in
set_option maxHeartbeats 1000000 in
theorem rRename_err (g : Int) (A : Option Addr) (n c : Nat) (L : List An) (B : Option Addr) (q d : Nat) (to : List Int) (w : World) (hR : Ans w A L) (hn : L.length = n) (hmax : n ≤ maxLen) (hJ : Ints w B to) (hq : to.length = q) (hqx : q ≤ maxLen) (he : errN g L to ≠ 0) :
    Calls Try.prog 11 #[.int .i64 g, .slice A n c, .slice B q d] w fun e w' => e = .returned (.tuple #[.slice none 0 0, .int .i64 (errN g L to)]) ∧ Bel w w' := by
  have Hn := Lib.hid hn; have Hq := Lib.hid hq
  by_cases h0 : errA g L = 0
  · obtain ⟨h1, k, rfl, hR'⟩ := errN_no he h0
    have HE := Lib.hid h0
    have HD := Lib.hid (decide_eq_false hR')
    rw [h1]
    clear h1 he h0 hR' hn hq
    go_enter Try.func11, Try.ntmps11
    go_wp2_with fail
    refine (rValidate_any _ A n c L _ hR Hn.out hmax).mono ?_
    rintro e w1 ⟨rfl, hb1⟩
    rw [HE.out]
    go_wp2_with fail
    refine (isOrder_any B q d k to _ (hJ.bel hb1) Hq.out hqx).mono ?_
    rintro e w2 ⟨rfl, rfl⟩
    rw [HD.out]
    go_wp2
    go_ret2
    exact ⟨rfl, hb1⟩
  · have h1 : errN g L to = errA g L := by unfold errN; rw [if_neg h0]
    rw [h1]
    have hne : (errA g L != 0) = true := by simpa using h0
    clear h1 he h0 hn hq
    go_enter Try.func11, Try.ntmps11
    go_wp2_with fail
    refine (rValidate_any g A n c L _ hR Hn.out hmax).mono ?_
    rintro e w1 ⟨rfl, hb1⟩
    go_wp2
    go_ret2
    exact ⟨rfl, hb1⟩
end Go.Proofs.Ytmklpldmgmjlkaa
