/- Lists of sides: areSides, markOf. -/
import Derived.Test.YtmckoehkekkldaaY
namespace Go.Proofs.Ytmckoehkekkldaa
open Go.RowKit

/-- Is each number from -1 to 1? -/
def sideOk (v : Int) : Bool := decide (-1 ≤ v ∧ v ≤ 1)
def sidesB (l : List Int) : Bool := l.all sideOk
set_option maxHeartbeats 400000 in
theorem areSides_any (A : Option Addr) (n c : Nat) (l : List Int) (w : World) (hR : Ints w A l) (hn : l.length = n) (hmax : n ≤ maxLen) :
    Calls Try.prog 88 #[.slice A n c] w fun e w' => e = .returned (.bool (sidesB l)) ∧ w = w' := by
  have Hn := Lib.hid hn
  have hm : (n : Int) ≤ 9223372036854775807 := by unfold maxLen at hmax; omega
  clear hn hmax
  go_enter Try.func88, Try.ntmps88
  go_wp2
  go_loop [4, 7] (fun _ i => ∃ k : Nat, k ≤ n ∧ i = .int .i64 k ∧ ∀ (j : Nat) (u : Int), j < k → l[j]? = some u → sideOk u = true) (fun _ i => n - (intOf i).toNat)
  case atStart => exact ⟨0, Nat.zero_le _, rfl, fun j u hj => by omega⟩
  case round =>
    obtain ⟨k, hk, rfl, hb⟩ := hrel
    have HB := Lib.hid hb
    clear hb
    by_cases hlt : k < n
    · obtain ⟨b, o, x, rfl, hbl, hg, hc1⟩ := hR.at_ (k := k) (by rw [Hn.out]; exact hlt)
      have HG := Lib.hid hg
      have hki : (k : Int) < (n : Int) := by omega
      clear hg
      by_cases h0 : x < -1
      · have HF : Hid (sidesB l = false) := by
          show _ = _
          unfold sidesB
          rw [List.all_eq_false]
          exact ⟨x, List.mem_of_getElem? HG.out, by simp [sideOk]; omega⟩
        go_wp2
        go_ret
        exact ⟨ret_bool HF.out.symm, rfl⟩
      · by_cases h1 : x > 1
        · have HF : Hid (sidesB l = false) := by
            show _ = _
            unfold sidesB
            rw [List.all_eq_false]
            exact ⟨x, List.mem_of_getElem? HG.out, by simp [sideOk]; omega⟩
          go_wp2
          go_ret
          exact ⟨ret_bool HF.out.symm, rfl⟩
        · have HX : Hid (sideOk x = true) := decide_eq_true (by omega)
          go_wp2
          go_round
          case rel => exact ⟨k + 1, by omega, by go_num, fun j u hj hu => by
            rcases (by omega : j < k ∨ j = k) with h | rfl
            · exact HB.out j u h hu
            · rw [HG.out] at hu; injection hu with hu; subst hu; exact HX.out⟩
          case measure => simp [intOf]; omega
    · obtain rfl : k = n := by omega
      have HF : Hid (sidesB l = true) := by
        show _ = _
        unfold sidesB
        rw [List.all_eq_true]
        intro u hu
        obtain ⟨j, hj⟩ := List.mem_iff_getElem?.1 hu
        exact HB.out j u (by rw [← Hn.out]; exact (List.getElem?_eq_some_iff.1 hj).1) hj
      go_wp2
      go_ret
      exact ⟨ret_bool HF.out.symm, rfl⟩
/-- A list as a mark. -/
def givenF (l : List Int) (k : Nat) : Int := l.getD k 0
/-- A copy whose run is known. -/
theorem wpList_copy_eq {P : Program} {w w' : World} {ops : Array Oper} {rest : List Oper} {o : Oper} {a : Act} {Q : Exit → Act → World → Prop} (hgd : o.guard = none) (d s : Operand) (dT sT : TypeId)
    (ho : o.op = .call { callee := .builtin .copy, args := #[d, s], argTypes := #[dT, sT] }) (x y : Value) (hd : a.eval d = x) (hs : a.eval s = y) {z : Value}
    (hrun : (Builtin.copy_ #[dT, sT] o.type #[x, y]).run P w = .ok z w') (h : wpList P ops Q rest (a.put o.dst z) w') : wpList P ops Q (o :: rest) a w := by
  refine wpList_plain hgd fun K hK => ?_
  unfold Oper.wp
  simp [execOp, ho, resolve, invoke, builtin, hd, hs, hrun, Result.andThen]
  exact hK _ _ h
theorem infoI1 : (Try.prog.info? 3).map (·.size) = some 1 := by kernel_rfl
theorem fill_given {w : World} {g h : Nat} {k : Nat → Int} {l : List Int} (hr : Row w g 3 3 (fun _ => 0)) (hh : Row w h 3 3 k) (hne : h ≠ g) (h3 : l.length ≤ 3) :
    Row (w.setCells g 0 (l.map fun x => .int .i64 x)) g 3 3 (givenF l) ∧ Row (w.setCells g 0 (l.map fun x => .int .i64 x)) h 3 3 k ∧ ∀ w0, Bel w0 w → w0.heap.size ≤ g → Bel w0 (w.setCells g 0 (l.map fun x => .int .i64 x)) := by
  rcases l with _ | ⟨x, _ | ⟨y, _ | ⟨z, _ | ⟨d, r⟩⟩⟩⟩
  · exact ⟨hr, hh, fun w0 hb _ => hb⟩
  · refine ⟨(hr.put (i := 0) (by omega) x).congr fun i hi => ?_, hh.far (p := ⟨g, 0, none⟩) hne _, fun w0 hb hg => hb.setCell (p := ⟨g, 0, none⟩) hg _⟩
    rcases (by omega : i = 0 ∨ i = 1 ∨ i = 2) with rfl | rfl | rfl <;> simp [givenF]
  · refine ⟨((hr.put (i := 0) (by omega) x).put (i := 1) (by omega) y).congr fun i hi => ?_, (hh.far (p := ⟨g, 0, none⟩) hne _).far (p := ⟨g, 1, none⟩) hne _, fun w0 hb hg => (hb.setCell (p := ⟨g, 0, none⟩) hg _).setCell (p := ⟨g, 1, none⟩) hg _⟩
    rcases (by omega : i = 0 ∨ i = 1 ∨ i = 2) with rfl | rfl | rfl <;> simp [givenF]
  · refine ⟨(((hr.put (i := 0) (by omega) x).put (i := 1) (by omega) y).put (i := 2) (by omega) z).congr fun i hi => ?_, ((hh.far (p := ⟨g, 0, none⟩) hne _).far (p := ⟨g, 1, none⟩) hne _).far (p := ⟨g, 2, none⟩) hne _, fun w0 hb hg => ((hb.setCell (p := ⟨g, 0, none⟩) hg _).setCell (p := ⟨g, 1, none⟩) hg _).setCell (p := ⟨g, 2, none⟩) hg _⟩
    rcases (by omega : i = 0 ∨ i = 1 ∨ i = 2) with rfl | rfl | rfl <;> simp [givenF]
  · simp at h3
set_option maxRecDepth 100000 in
set_option maxHeartbeats 1000000 in
theorem markOf_any (A : Option Addr) (n c : Nat) (l : List Int) (w : World) (hR : Ints w A l) (hn : l.length = n) (h3 : n ≤ 3) :
    Calls Try.prog 89 #[.slice A n c] w fun e w' => e = .returned (V3 (givenF l)) ∧ Bel w w' := by
  have hb0 : Bel w ((w.alloc (.cells #[.int .i64 0, .int .i64 0, .int .i64 0] 78)).alloc (.cells #[.int .i64 0, .int .i64 0, .int .i64 0] 78)) := by (repeat (first | exact Bel.refl _ | assumption | refine Bel.drew ?_ | refine Bel.drewN ?_ _ | refine Bel.alloc ?_ _ | refine Bel.setCell ?_ (by first | omega | (simp; done) | (simp; omega) | (simp at *; omega)) _ | refine Bel.trans ?_ (by assumption)))
  have r0 : Row ((w.alloc (.cells #[.int .i64 0, .int .i64 0, .int .i64 0] 78)).alloc (.cells #[.int .i64 0, .int .i64 0, .int .i64 0] 78)) w.heap.size 3 3 (fun _ => 0) := (row3 w (fun _ => 0) 78).alloc _
  have r1 : Row ((w.alloc (.cells #[.int .i64 0, .int .i64 0, .int .i64 0] 78)).alloc (.cells #[.int .i64 0, .int .i64 0, .int .i64 0] 78)) (w.heap.size + 1) 3 3 (fun _ => 0) := by
    have := row3 (w.alloc (.cells #[.int .i64 0, .int .i64 0, .int .i64 0] 78)) (fun _ => 0) 78
    rw [World.size_alloc] at this
    exact this
  have hR2 := hR.bel hb0
  obtain ⟨W, hW⟩ : ∃ W, W = ((w.alloc (.cells #[.int .i64 0, .int .i64 0, .int .i64 0] 78)).alloc (.cells #[.int .i64 0, .int .i64 0, .int .i64 0] 78)) := ⟨_, rfl⟩
  rw [← hW] at hb0 r0 r1 hR2
  have hcp : ∃ W', (∀ ty, (Builtin.copy_ #[28, 28] ty #[.slice (some ⟨w.heap.size + 1, 0, none⟩) 3 3, .slice A n c]).run Try.prog W = .ok (goInt n) W') ∧ Row W' (w.heap.size + 1) 3 3 (givenF l) ∧ Row W' w.heap.size 3 3 (fun _ => 0) ∧ Bel w W' := by
    by_cases h0 : n = 0
    · subst h0
      obtain rfl : l = [] := List.eq_nil_of_length_eq_zero hn
      exact ⟨W, fun ty => run_copy_none (P := Try.prog) W 28 28 ty 3 (some ⟨w.heap.size + 1, 0, none⟩) A 3 3 0 c Try.underlying28 infoI1 rfl, r1.congr fun i _ => by simp [givenF], r0, hb0⟩
    · obtain ⟨b, o, rfl, hbl, hcs⟩ := hR2.news (by intro e; rw [e] at hn; simp at hn; omega)
      obtain ⟨f1, f2, f3⟩ := fill_given (l := l) r1 r0 (by omega) (by omega)
      refine ⟨_, fun ty => ?_, f1, f2, f3 w hb0 (by omega)⟩
      have := run_copy_cells (P := Try.prog) W 28 28 ty 3 (w.heap.size + 1) 0 3 3 ⟨b, o, none⟩ n c (l.map fun x => .int .i64 x) Try.underlying28 infoI1
        (by rw [List.length_map, hn]; exact (Nat.min_eq_left h3).symm) hcs (fun j hj => by rw [List.length_map] at hj; rw [Nat.zero_add, r1.cells j (by omega)]; rfl) (fun j hj => by rw [Nat.zero_add]; exact r1.fz j) (one_map l)
      rw [List.length_map, hn] at this
      exact this
  obtain ⟨W', hrun, g1, g2, hbW⟩ := hcp
  subst hW
  have Hcp := Lib.hid hrun
  have G1 := Lib.hid g1; have G2 := Lib.hid g2
  have HQ := Lib.hid (fill3 (givenF l) g2)
  have HB := Lib.hid (bel3 (givenF l) hbW (g := w.heap.size) (Nat.le_refl _))
  clear hrun hR hR2 hn r0 r1 hb0
  obtain ⟨c0, c1, c2⟩ := g1.three
  obtain ⟨d0, d1, d2⟩ := g2.three
  have hz0 := g2.fz 0; have hz1 := g2.fz 1; have hz2 := g2.fz 2
  have hl2 := g2.lt; have hl1 := g1.lt
  clear g1 g2
  go_enter Try.func89, Try.ntmps89
  go_wp2_with (refine wpList_copy_eq (o := ⟨some 6, _, _, _, _, _⟩) rfl (.tmp 4) (.tmp 5) 28 28 rfl _ _ rfl rfl (Hcp.out _) ?_)
  obtain ⟨e0, e1, e2⟩ := HQ.out.three
  exact bodyPost_ret (v := V3 (givenF l)) (by simp [results, Try.results89, go_sem, e0, e1, e2]) rfl ⟨rfl, HB.out⟩
end Go.Proofs.Ytmckoehkekkldaa
