/- The program's renamed and hasEachOnce, the document's isOrder. -/
import Derived.Test.YtmklpldmgmjlkaaTG
import Derived.Test.YtmklpldmgmjlkaaKI
namespace Go.Proofs.Ytmklpldmgmjlkaa
open Go.RowKit

theorem mapL_at {to ns : List Int} {k : Nat} {u : Int} (h : ns[k]? = some u) : (mapL to ns)[k]? = some (toN to u.toNat : Int) := by
  unfold mapL
  rw [List.getElem?_map, h]
  rfl
theorem mapL_len (to ns : List Int) : (mapL to ns).length = ns.length := by simp [mapL]
/-- The first k numbers, and zeros behind them. -/
def fillL (to ns : List Int) (k : Nat) : List Int := (mapL to ns).take k ++ List.replicate (ns.length - k) 0
theorem fillL_len {to ns : List Int} {k : Nat} (hk : k ≤ ns.length) : (fillL to ns k).length = ns.length := by
  unfold fillL
  rw [List.length_append, List.length_take, mapL_len, List.length_replicate]
  omega
theorem fillL_done (to ns : List Int) : fillL to ns ns.length = mapL to ns := by
  unfold fillL
  rw [Nat.sub_self, List.replicate_zero, List.append_nil, List.take_of_length_le (by rw [mapL_len]; omega)]
theorem fillL_next {to ns : List Int} {k : Nat} {u : Int} (h : ns[k]? = some u) : (fillL to ns k).set k (toN to u.toNat : Int) = fillL to ns (k + 1) := by
  have hk := (List.getElem?_eq_some_iff.1 h).1
  have hl : ((mapL to ns).take k).length = k := by rw [List.length_take, mapL_len]; omega
  unfold fillL
  rw [take_at (mapL_at h), List.set_append, if_neg (by omega), hl, Nat.sub_self, show ns.length - k = (ns.length - (k + 1)) + 1 by omega, List.replicate_succ, List.set_cons_zero, List.append_assoc]
  rfl
theorem own_new (w : World) (t : TypeId) (n : Nat) (hn : n ≤ maxLen) : Own1 t w.heap.size (w.alloc (.cells (madeCells #[.int .i64 0] n) t)) (.slice (some ⟨w.heap.size, 0, none⟩) n n) (List.replicate n 0) := by
  have h := World.ownsRow_lit (base := w.heap.size) (e := t) (size := 1) w (madeCells #[.int .i64 0] n) n (Nat.le_refl _) hn (by simp [madeCells])
  have e : (madeCells #[Value.int .i64 0] n).toList = (List.replicate n (0 : Int)).map fun x => .int .i64 x := by
    rw [toList_madeCells_one, List.map_replicate]
  unfold Own1
  rw [← e, List.length_replicate]
  exact h
theorem own_put {t base g n cap : Nat} {w : World} {l : List Int} (h : Own1 t base w (.slice (some ⟨g, 0, none⟩) n cap) l) (hl : l.length = n) (j : Nat) (x : Int) : Own1 t base (w.setCell ⟨g, j, none⟩ (.int .i64 x)) (.slice (some ⟨g, 0, none⟩) n cap) (l.set j x) := by
  unfold Own1 at h ⊢
  rw [List.length_set, List.map_set]
  rw [hl] at h ⊢
  exact (World.ownsRow.stored h j _).1
set_option maxRecDepth 100000 in
set_option maxHeartbeats 4000000 in
theorem renamed_any (A B : Option Addr) (n c g d : Nat) (ns to : List Int) (w : World) (hI : Ints w A ns) (hn : ns.length = n) (hJ : Ints w B to) (hR : Renum g to) (hl : setB ns (g : Int) = true) (hn16 : n ≤ 1000) :
    Calls Try.prog 23 #[.slice A n c, .slice B g d] w fun e w' => ∃ v, e = .returned v ∧ Own1 3 w.heap.size w' v (imgL to g ns) ∧ Bel w w' := by
  have hmk : ∀ W : World, (Instr.makeSlice 23 (.int .i64 (n : Int)) (.int .i64 (n : Int))).run Try.prog W = .ok (.slice (some ⟨W.heap.size, 0, none⟩) n n) (W.alloc (.cells (madeCells #[.int .i64 0] n) 3)) :=
    fun W => run_make_row' 23 3 (.int .i64 0) 8 Try.underlying23 infoInt rfl .i64 .i64 n (by first | omega | (unfold maxLen; omega)) (by first | omega | (unfold maxLen; omega)) W
  have hown0 := own_new w 3 n (by unfold maxLen; omega)
  have Hn := Lib.hid hn; have HR := Lib.hid hR; have HL := Lib.hid hl; have HO0 := Lib.hid hown0
  have HMS := Lib.hid (mapL_sort hR hl)
  clear hn hR hl hown0
  go_enter Try.func23, Try.ntmps23
  go_wp2
  clear hmk
  go_loopw [6, 7, 13] (fun _ _ i wr => ∃ k : Nat, k ≤ n ∧ i = .int .i64 k ∧ Bel w wr ∧ Own1 3 w.heap.size wr (.slice (some ⟨w.heap.size, 0, none⟩) n n) (fillL to ns k)) (fun _ _ i _ => n - (intOf i).toNat)
  case atStart => exact ⟨0, Nat.zero_le _, rfl, (Bel.refl w).alloc _, by
    have := HO0.out
    rw [← Hn.out] at this ⊢
    exact this⟩
  case round =>
    obtain ⟨k, hk, rfl, hb, hO⟩ := hrel
    by_cases hlt : k < n
    · obtain ⟨b, o, u, rfl, hbl, hg, hc1⟩ := (hI.bel hb).at_ (k := k) (by rw [Hn.out]; exact hlt)
      have hur := set_in HL.out (List.mem_of_getElem? hg)
      obtain ⟨un, rfl⟩ : ∃ un : Nat, u = (un : Int) := ⟨u.toNat, by omega⟩
      have hun : un < g := by omega
      obtain ⟨b2, o2, z, rfl, hbl2, hg2, hc2⟩ := (hJ.bel hb).at_ (k := un) (by rw [HR.out.len]; exact hun)
      have hz := (HR.out.at_ hun).1
      rw [hg2] at hz
      have hze : z = (toN to un : Int) := Option.some.inj hz
      subst hze
      have hfl := fillL_len (to := to) (ns := ns) (k := k) (by rw [Hn.out]; omega)
      rw [Hn.out] at hfl
      have hO' := hO
      unfold Own1 at hO'
      rw [hfl] at hO'
      obtain ⟨q, hq⟩ : ∃ q, (fillL to ns k)[k]? = some q := ⟨_, List.getElem?_eq_getElem (by rw [hfl]; exact hlt)⟩
      have hcell : wr.cell? ⟨w.heap.size, k, none⟩ = some (.int .i64 q) := by
        rw [World.ownsRow.cellAt hO' k (by omega), List.getElem?_map, hq]
        rfl
      have hfz := World.ownsRow.frozenAt hO' k
      have hlw := (World.ownsRow.lt hO' w.heap.size rfl).2
      have hnx := own_put hO hfl k (toN to un : Int)
      have hfn := fillL_next (to := to) hg
      simp only [Int.toNat_natCast] at hfn
      rw [hfn] at hnx
      have HNX := Lib.hid hnx
      have hki : (k : Int) < (n : Int) := by omega
      have hk0 : (0 : Int) ≤ (k : Int) := by omega
      have hu0 : (0 : Int) ≤ (un : Int) := by omega
      have hui : (un : Int) < (g : Int) := by omega
      clear hg hg2 hz hfl hO' hq hnx hfn hO hur
      go_wp2
      go_roundw
      case rel => exact ⟨k + 1, by omega, by go_num, hb.setCell (p := ⟨w.heap.size, k, none⟩) (Nat.le_refl _) _, HNX.out⟩
      case measure => simp [intOf]; omega
    · obtain rfl : n = k := by omega
      have hO' := hO
      rw [← Hn.out, fillL_done] at hO'
      have HO := Lib.hid hO'
      rw [Hn.out] at HO
      have HML := Lib.hid (show (mapL to ns).length ≤ 1000 by rw [mapL_len, Hn.out]; exact hn16)
      clear hO hO'
      go_wp2_with fail
      refine (sort_own HO.out HML.out).mono ?_
      rintro e w2 ⟨rfl, hO2, hg2⟩
      rw [HMS.out] at hO2
      have HO2 := Lib.hid hO2
      have HB := Lib.hid (grown_own (w := w) hb HO.out (Nat.le_refl _) hg2)
      clear hO2 hg2
      go_wp2
      go_ret
      exact ⟨_, rfl, HO2.out, HB.out⟩
theorem renum_iff {n : Nat} {l : List Int} : Renum n l ↔ l.length = n ∧ ∀ i : Nat, i < n → (i : Int) ∈ l := ⟨fun h => ⟨h.1, h.2⟩, fun h => ⟨h.1, h.2⟩⟩
set_option maxRecDepth 100000 in
set_option maxHeartbeats 1000000 in
theorem hasEachOnce_any (B : Option Addr) (q d g : Nat) (to : List Int) (w : World) (hJ : Ints w B to) (hq : to.length = q) (hmax : q ≤ maxLen) :
    Calls Try.prog 22 #[.slice B q d, .int .i64 (g : Int)] w fun e w' => e = .returned (.bool (decide (Renum g to))) ∧ w = w' := by
  have Hq := Lib.hid hq
  have h63 : (q : Int) ≤ 9223372036854775807 := by unfold maxLen at hmax; omega
  clear hq
  by_cases hqg : q = g
  · subst hqg
    have hnn : ((q : Int) != (q : Int)) = false := by simp
    go_enter Try.func22, Try.ntmps22
    go_wp2
    go_loop [5, 11] (fun _ i => ∃ k : Nat, k ≤ q ∧ i = .int .i64 k ∧ ∀ j : Nat, j < k → (j : Int) ∈ to) (fun _ i => q - (intOf i).toNat)
    case atStart => exact ⟨0, Nat.zero_le _, rfl, fun j hj => by omega⟩
    case round =>
      obtain ⟨k, hk, rfl, hz⟩ := hrel
      have HZ := Lib.hid hz
      clear hz
      by_cases hlt : k < q
      · have hki : (k : Int) < (q : Int) := by omega
        go_wp2_with fail
        refine (contains_any B q d to (k : Int) _ hJ Hq.out hmax).mono ?_
        rintro e w2 ⟨rfl, rfl⟩
        cases hh : hasB to (k : Int)
        · have HN := Lib.hid (show decide (Renum q to) = false from decide_eq_false fun h => by
            have := hasB_iff.2 (h.all k hlt)
            rw [hh] at this
            cases this)
          clear hh
          go_wp2
          go_ret
          exact ⟨ret_bool HN.out.symm, rfl⟩
        · have HH := Lib.hid (hasB_iff.1 hh)
          clear hh
          go_wp2
          go_round
          case rel => exact ⟨k + 1, by omega, by go_num, fun j hj => by
            rcases (by omega : j < k ∨ j = k) with h | rfl
            · exact HZ.out j h
            · exact HH.out⟩
          case measure => simp [intOf]; omega
      · obtain rfl : q = k := by omega
        have HN := Lib.hid (show decide (Renum q to) = true from decide_eq_true ⟨Hq.out, HZ.out⟩)
        go_wp2
        go_ret
        exact ⟨ret_bool HN.out.symm, rfl⟩
  · have hnn : ((q : Int) != (g : Int)) = true := by simp; omega
    have hnn' : ¬ (q : Int) = (g : Int) := by omega
    have HN := Lib.hid (show decide (Renum g to) = false from decide_eq_false fun h => hqg (by rw [← Hq.out]; exact h.len))
    go_enter Try.func22, Try.ntmps22
    go_wp2
    go_ret
    exact ⟨ret_bool HN.out.symm, rfl⟩
set_option maxRecDepth 100000 in
set_option maxHeartbeats 1000000 in
theorem isOrder_any (B : Option Addr) (q d g : Nat) (to : List Int) (w : World) (hJ : Ints w B to) (hq : to.length = q) (hmax : q ≤ maxLen) :
    Calls Try.prog 20 #[.slice B q d, .int .i64 (g : Int)] w fun e w' => e = .returned (.bool (decide (Renum g to))) ∧ w = w' := by
  have Hq := Lib.hid hq
  have h63 : (q : Int) ≤ 9223372036854775807 := by unfold maxLen at hmax; omega
  clear hq
  by_cases hqg : q = g
  · subst hqg
    have hnn : ((q : Int) != (q : Int)) = false := by simp
    go_enter Try.func20, Try.ntmps20
    go_wp2
    go_loop [5] (fun i => ∃ k : Nat, k ≤ q ∧ i = .int .i64 k ∧ ∀ j : Nat, j < k → (j : Int) ∈ to) (fun i => q - (intOf i).toNat)
    case atStart => exact ⟨0, Nat.zero_le _, rfl, fun j hj => by omega⟩
    case round =>
      obtain ⟨k, hk, rfl, hz⟩ := hrel
      have HZ := Lib.hid hz
      clear hz
      by_cases hlt : k < q
      · have hki : (k : Int) < (q : Int) := by omega
        go_wp2_with fail
        refine (has_any B q d to (k : Int) _ hJ Hq.out hmax).mono ?_
        rintro e w2 ⟨rfl, rfl⟩
        cases hh : hasB to (k : Int)
        · have HN := Lib.hid (show decide (Renum q to) = false from decide_eq_false fun h => by
            have := hasB_iff.2 (h.all k hlt)
            rw [hh] at this
            cases this)
          clear hh
          go_wp2
          go_ret
          exact ⟨ret_bool HN.out.symm, rfl⟩
        · have HH := Lib.hid (hasB_iff.1 hh)
          clear hh
          go_wp2
          go_round
          case rel => exact ⟨k + 1, by omega, by go_num, fun j hj => by
            rcases (by omega : j < k ∨ j = k) with h | rfl
            · exact HZ.out j h
            · exact HH.out⟩
          case measure => simp [intOf]; omega
      · obtain rfl : q = k := by omega
        have HN := Lib.hid (show decide (Renum q to) = true from decide_eq_true ⟨Hq.out, HZ.out⟩)
        go_wp2
        go_ret
        exact ⟨ret_bool HN.out.symm, rfl⟩
  · have hnn : ((q : Int) != (g : Int)) = true := by simp; omega
    have hnn' : ¬ (q : Int) = (g : Int) := by omega
    have HN := Lib.hid (show decide (Renum g to) = false from decide_eq_false fun h => hqg (by rw [← Hq.out]; exact h.len))
    go_enter Try.func20, Try.ntmps20
    go_wp2
    go_ret
    exact ⟨ret_bool HN.out.symm, rfl⟩
end Go.Proofs.Ytmklpldmgmjlkaa
