/- Wins of the program. -/
import Derived.Test.YtahkihifgafbnaaI
namespace Go.Proofs.Ytahkihifgafbnaa
open Go.RowKit

attribute [local go_sem] Oper.semAt_some

theorem errT_zero {T : List (List Int)} (h : errT T = 0) : (1 ≤ T.length ∧ T.length ≤ 7) ∧ rowsB T T.length = true ∧ diagB T T.length = true := by
  unfold errT at h
  split at h
  · rename_i h1
    split at h
    · rename_i h2
      simp only [Bool.and_eq_true] at h2
      exact ⟨h1, h2⟩
    · cases h
  · cases h
/-- How many strips a strip beats. -/
def winN (T : List (List Int)) (n s : Nat) : Int := ((outL T n s).length : Nat)
/-- While they are counted. -/
def winF (T : List (List Int)) (n k p i : Nat) : Int := if i < k then winN T n i else if i = k then (p : Int) else 0

set_option maxRecDepth 100000 in
set_option maxHeartbeats 4000000 in
theorem wins_ok (lo : Nat) (A : Option Addr) (n c : Nat) (T : List (List Int)) (w : World) (hR : Tab lo w A T) (hn : T.length = n) (hE : errT T = 0) :
    Calls Try.prog 39 #[.slice A n c] w fun e w' => ∃ g, e = .returned (.tuple #[.slice (some ⟨g, 0, none⟩) n n, .int .i64 0]) ∧ w.heap.size ≤ g ∧ Bel w w' ∧ Row w' g n n (winN T n) := by
  obtain ⟨⟨h1, h7⟩, hrw, -⟩ := errT_zero hE
  rw [hn] at h1 h7 hrw
  have hsq := rowsB_square hn hrw
  have hN := hR.toN hsq h1
  have hmk : ∀ W : World, (Instr.makeSlice 26 (.int .i64 (n : Int)) (.int .i64 (n : Int))).run Try.prog W = .ok (.slice (some ⟨W.heap.size, 0, none⟩) n n) (W.alloc (.cells (madeCells #[.int .i64 0] n) 3)) :=
    fun W => run_make_row' 26 3 (.int .i64 0) 8 Try.underlying26 infoInt rfl .i64 .i64 n (by first | omega | (unfold maxLen; omega)) (by first | omega | (unfold maxLen; omega)) W
  have HE := Lib.hid hE; have Hn := Lib.hid hn; have HSQ := Lib.hid hsq
  clear hE hn hrw hsq
  refine (callsIn_wide (n := 5)).1 ?_
  refine callsIn_of_wp_marks Try.func39 rfl trivial ?_ rfl
  simp only [Try.ntmps39, List.size_toArray, List.length_cons, List.length_nil, Nat.reduceAdd, Nat.reduceSub, Array.replicate_succ, Array.replicate_zero, List.push_toArray, List.append_toArray, List.nil_append, List.cons_append]
  gi_wp2_with (first | (refine ⟨trivial, ?_⟩; gi_at_call 41; refine (callsIn_wide.2 (validate_any lo A n c T _ hR Hn.out)).mono ?_; rintro e w1 ⟨rfl, hb1⟩; rw [HE.out]) | fail)
  have hs1 := hb1.size
  have hrow0 : Row (w1.alloc (.cells (madeCells #[.int .i64 0] n) 3)) w1.heap.size n n (winF T n 0 0) := Row.whole _ _ _ _ _ fun i hi => by
    rw [show winF T n 0 0 i = 0 from by unfold winF; rw [if_neg (by omega)]; split <;> rfl]
    exact made_int n i hi
  refine wpIn_loop (fun a wr => ∃ (k : Nat) (u6 u18 u19 u20 u21 u22 u23 u24 u25 u26 u27 u28 u29 u30 u31 : Value) (Ds : List Nat), k ≤ n ∧ a = { tmps := #[.slice A n c, undef, .slice none 0 0, .int .i64 0, .int .i64 0, .pointer (some ⟨w1.heap.size + 1, 0, none⟩), u6, .slice A n c, .int .i64 0, .int .i64 0, .bool false, undef, .slice A n c, .int .i64 (n : Int), .slice (some ⟨w1.heap.size, 0, none⟩) n n, .slice (some ⟨w1.heap.size, 0, none⟩) n n, .int .i64 (n : Int), .int .i64 (k : Int), u18, u19, u20, u21, u22, u23, u24, u25, u26, u27, u28, u29, u30, u31], defers := coll Ds } ∧ Ds.Nodup ∧ Idle Ds wr ∧ (∀ D ∈ Ds, w1.heap.size + 2 ≤ D) ∧ Bel w wr ∧ Row wr w1.heap.size n n (winF T n k 0) ∧ wr.cell? ⟨w1.heap.size + 1, 0, none⟩ = some (.slice (some ⟨w1.heap.size, 0, none⟩) n n) ∧ w1.heap.size + 2 ≤ wr.heap.size)
    (fun a _ => n - (intOf (a.tmps.getD 17 undef)).toNat)
    ⟨0, undef, undef, undef, undef, undef, undef, undef, undef, undef, undef, undef, undef, undef, undef, undef, [], Nat.zero_le _, rfl, List.nodup_nil, (fun D h => by cases h), (fun D h => by cases h), (hb1.alloc _).alloc _, hrow0.alloc _, by go_simp, by simp⟩ ?_
  clear hrow0 hmk
  rintro a wr ⟨k, u6, u18, u19, u20, u21, u22, u23, u24, u25, u26, u27, u28, u29, u30, u31, Ds, hk, rfl, hnd, hid, hDs, hb, hrow, hbox, hsz⟩
  by_cases hlt : k < n
  · have hki : (k : Int) < (n : Int) := by omega
    gi_wp2_with (first | (refine ⟨trivial, ?_⟩; gi_at_call 79; refine (callsIn_wide.2 (beaten_in _ _ _ _ _)).mono ?_; rintro e w' ⟨rfl, rfl⟩) | fail)
    have hB0 : Bel wr (((wr.alloc (.cells #[.int .i64 (k : Int)] 3)).alloc (.cells #[.slice A n c] 61)).alloc (.cells #[.int .i64 (k : Int)] 3)) := by (repeat (first | exact Bel.refl _ | assumption | refine Bel.drew ?_ | refine Bel.drewN ?_ _ | refine Bel.alloc ?_ _ | refine Bel.setCell ?_ (by first | omega | (simp; done) | (simp; omega) | (simp at *; omega)) _ | refine Bel.trans ?_ (by assumption)))
    have hsz0 : (((wr.alloc (.cells #[.int .i64 (k : Int)] 3)).alloc (.cells #[.slice A n c] 61)).alloc (.cells #[.int .i64 (k : Int)] 3)).heap.size = wr.heap.size + 3 := by simp
    have c6 : (((wr.alloc (.cells #[.int .i64 (k : Int)] 3)).alloc (.cells #[.slice A n c] 61)).alloc (.cells #[.int .i64 (k : Int)] 3)).cell? ⟨wr.heap.size, 0, none⟩ = some (.int .i64 (k : Int)) := by go_simp
    have cBt : (((wr.alloc (.cells #[.int .i64 (k : Int)] 3)).alloc (.cells #[.slice A n c] 61)).alloc (.cells #[.int .i64 (k : Int)] 3)).cell? ⟨wr.heap.size + 1, 0, none⟩ = some (.slice A n c) := by go_simp
    have cBs : (((wr.alloc (.cells #[.int .i64 (k : Int)] 3)).alloc (.cells #[.slice A n c] 61)).alloc (.cells #[.int .i64 (k : Int)] 3)).cell? ⟨wr.heap.size + 1 + 1, 0, none⟩ = some (.int .i64 (k : Int)) := by go_simp
    obtain ⟨W0, hW0⟩ : ∃ W0, ((wr.alloc (.cells #[.int .i64 (k : Int)] 3)).alloc (.cells #[.slice A n c] 61)).alloc (.cells #[.int .i64 (k : Int)] 3) = W0 := ⟨_, rfl⟩
    rw [hW0] at hB0 hsz0 c6 cBt cBs ⊢
    clear hW0
    have c5 : W0.cell? ⟨w1.heap.size + 1, 0, none⟩ = some (.slice (some ⟨w1.heap.size, 0, none⟩) n n) := by rw [hB0.use.1 _ _ (by omega)]; exact hbox
    have hrowW := hrow.bel hB0
    have hww := hb1.size
    have hTW : TabN (fun x => x < W0.heap.size ∧ x ≠ w1.heap.size) W0 A T := (hN.kept (fun x hx => (hb.trans hB0).block x hx)).mono (fun x (hx : x < w.heap.size) => ⟨by omega, by omega⟩)
    refine wpIn_rangeFunc_ownF rfl (by omega) (gf := 111) (lb := #[.pointer (some ⟨wr.heap.size + 1, 0, none⟩), .pointer (some ⟨wr.heap.size + 1 + 1, 0, none⟩)]) rfl trivial (enters_of Try.func111 (by kernel_rfl) rfl)
      (beaten_stops 3 (wr.heap.size + 1) (wr.heap.size + 1 + 1) (fun x => x < W0.heap.size ∧ x ≠ w1.heap.size) A n c k T W0 HSQ.out (by omega) hlt ⟨by omega, by omega⟩ ⟨by omega, by omega⟩ (fun x h => h.1) cBt cBs hTW)
      (fun h k => h.trans k) (Kept.put (fun x h => h.1)) (Below.refl _ _) (fun _ => rfl)
      (fun pre W => Row W w1.heap.size n n (winF T n k pre.length) ∧ W0.grownBy W (some w1.heap.size))
      (fun _ _ _ => False)
      (OwnFrom.and (own_row (by omega) (fun (pre : List (Fin n)) => winF T n k pre.length)) (own_grown (Nat.le_refl _)))
      (fun _ _ _ _ _ hs _ _ => hs)
      ⟨hrowW, ⟨rfl, rfl, rfl, Nat.le_refl _, fun _ _ _ => rfl⟩⟩
      (fun x => { tmps := #[.slice A n c, undef, .slice none 0 0, .int .i64 0, .int .i64 0, .pointer (some ⟨w1.heap.size + 1, 0, none⟩), .pointer (some ⟨wr.heap.size, 0, none⟩), .slice A n c, .int .i64 0, .int .i64 0, .bool false, undef, .slice A n c, .int .i64 (n : Int), .slice (some ⟨w1.heap.size, 0, none⟩) n n, .slice (some ⟨w1.heap.size, 0, none⟩) n n, .int .i64 (n : Int), .int .i64 (k : Int), .bool true, .int .i64 (k : Int), .slice A n c, .int .i64 (k : Int), .func (.func 111) #[] #[.pointer (some ⟨wr.heap.size + 1, 0, none⟩), .pointer (some ⟨wr.heap.size + 1 + 1, 0, none⟩)], .int .i64 (x.val : Int), u24, u25, u26, u27, u28, u29, u30, u31], defers := [] }) ?assign ?body ?done ?stop
    case assign =>
      intro l x W K hK
      gi_wp2
      simpa using hK
    case body =>
      rintro l pre x W ⟨hrow2, hgb⟩ hlen
      have d5 : W.cell? ⟨w1.heap.size + 1, 0, none⟩ = some (.slice (some ⟨w1.heap.size, 0, none⟩) n n) := by rw [World.cell?_of_block (w := W0) (a := ⟨w1.heap.size + 1, 0, none⟩) (hgb.block (w1.heap.size + 1) (by omega) (by simp))]; exact c5
      have d6 : W.cell? ⟨wr.heap.size, 0, none⟩ = some (.int .i64 (k : Int)) := by rw [World.cell?_of_block (w := W0) (a := ⟨wr.heap.size, 0, none⟩) (hgb.block wr.heap.size (by omega) (by simp; omega))]; exact c6
      have dr := hrow2.cells k hlt
      rw [show winF T n k pre.length k = (pre.length : Int) from by unfold winF; rw [if_neg (by omega), if_pos rfl]] at dr
      have hfz := hrow2.fz k
      have hp : pre.length ≤ 7 := by omega
      generalize hpl : pre.length = p at *
      gi_wp2
      refine ⟨KeepsOthers.setCell _ _ _, fun x hx => Below.heap_setCell _ _ _ _ (fun e => hx.2 (by first | exact e | exact e.symm)), ?_, gb_store hgb _⟩
      refine (hrow2.put hlt _).congr fun i _ => ?_
      rw [List.length_append, hpl]
      unfold winF
      by_cases hik : i = k
      · subst hik
        rw [if_pos rfl, if_neg (by omega), if_pos rfl]
        simp
      · by_cases h2 : i < k
        · simp [hik, h2]
        · simp [hik, h2]
    case done =>
      rintro D ys W hD rfl ⟨hrow2, hgb⟩ hK
      gi_wp2
      have hDn : D ∉ Ds := fun h => by
        have := (Array.getElem?_eq_some_iff.1 (hid D h)).1
        omega
      refine ⟨⟨k + 1, _, _, _, _, _, _, _, _, _, _, _, _, _, _, _, D :: Ds, by omega, rfl, List.nodup_cons.2 ⟨hDn, hnd⟩, fun E hE => ?_, fun E hE => ?_, ?_, ?_, ?_, ?_⟩, ?_⟩
      · rcases List.mem_cons.1 hE with rfl | hE
        · exact hK
        · have h1 := hid E hE
          have h2 := (Array.getElem?_eq_some_iff.1 h1).1
          have h3 := hDs E hE
          rw [hgb.block E (by omega) (by simp; omega), hB0.block E h2]
          exact h1
      · rcases List.mem_cons.1 hE with rfl | hE
        · omega
        · exact hDs E hE
      · exact Below.grown (hb.trans hB0) hgb (hb.trans hB0).size (fun x e => by cases e; exact hww)
      · refine hrow2.congr fun i _ => ?_
        unfold winF
        by_cases h2 : i < k
        · rw [if_pos h2, if_pos (by omega)]
        · by_cases hik : i = k
          · subst hik
            rw [if_neg h2, if_pos rfl, if_pos (by omega)]
            rfl
          · rw [if_neg h2, if_neg hik, if_neg (by omega)]
            split <;> rfl
      · rw [World.cell?_of_block (w := W0) (a := ⟨w1.heap.size + 1, 0, none⟩) (hgb.block (w1.heap.size + 1) (by omega) (by simp))]; exact c5
      · have := hgb.size
        omega
      · simp [intOf]
        omega
    case stop =>
      rintro D c pre W _ _ h _
      exact h.elim
  · obtain rfl : n = k := by omega
    have hww := hb1.size
    gi_wp2
    refine leaves_many Ds wr hnd hid ?_
    refine ⟨.tuple #[.slice (some ⟨w1.heap.size, 0, none⟩) n n, .int .i64 0], by simp [results, Try.f39, go_sem], w1.heap.size, rfl, hww, takeAll_bel Ds wr hnd hid (fun D hD => by have := hDs D hD; omega) hb, ?_⟩
    refine (hrow.of_block (w' := takeAll Ds wr) (by rw [takeAll_size]; exact Nat.le_refl _) (takeAll_other Ds wr _ (fun h => by have := hDs _ h; omega))).congr fun i hi => ?_
    unfold winF
    rw [if_pos hi]
end Go.Proofs.Ytahkihifgafbnaa
