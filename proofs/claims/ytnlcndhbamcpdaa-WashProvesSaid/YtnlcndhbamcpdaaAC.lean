/- The document's masses and lots. -/
import Derived.Test.YtnlcndhbamcpdaaAB
import Derived.Deep.OwnRows
namespace Go.Proofs.Ytnlcndhbamcpdaa
open Go.RowKit

theorem infoInt : (Try.prog.info? 3).map (fun i => (i.zero, i.size, i.bytes)) = some (some (.int .i64 0), 1, 8) := by kernel_rfl
theorem massF_zero {gs : List (Int × Int)} (h : Fit gs) : massF gs 0 = 0 := by
  induction gs with
  | nil => rfl
  | cons g r ih =>
    have h2 := h g (by simp)
    have e : massF (g :: r) 0 = (if g.1 = ((0 : Nat) : Int) then g.2 else 0) + massF r 0 := by simp [massF]
    rw [e, ih fun x hx => h x (by simp [hx]), if_neg (by omega)]
    rfl
/-- A new slice of the masses by size. -/
def MadeInts (w : World) (f : Nat → Int) (e : Ending) (w' : World) : Prop :=
  ∃ g, e = .returned (.slice (some ⟨g, 0, none⟩) 21 21) ∧ w.heap.size ≤ g ∧ Bel w w' ∧ Row w' g 21 21 f

set_option maxHeartbeats 1000000 in
theorem masses_any (A : Option Addr) (n c : Nat) (gs : List (Int × Int)) (w : World) (hR : Prs w A gs) (hn : gs.length = n) (hlen : n ≤ 6) (hm : Fit gs) :
    Calls Try.prog 103 #[.slice A n c] w (MadeInts w (massF gs)) := by
  have Hn := Lib.hid hn; clear hn
  have hmk : ∀ W : World, (Instr.makeSlice 37 (.int .i64 21) (.int .i64 21)).run Try.prog W = .ok (.slice (some ⟨W.heap.size, 0, none⟩) 21 21) (W.alloc (.cells (madeCells #[.int .i64 0] 21) 3)) :=
    fun W => run_make_row' 37 3 (.int .i64 0) 8 Try.underlying37 infoInt rfl .i64 .i64 21 (by decide) (by decide) W
  have hrow : Row (w.alloc (.cells (madeCells #[.int .i64 0] 21) 3)) w.heap.size 21 21 (massF (gs.take 0)) := Row.whole _ _ _ _ _ fun i hi => by simp [madeCells, hi, massF, Nat.mod_one]
  have hb0 : Bel w (w.alloc (.cells (madeCells #[.int .i64 0] 21) 3)) := by (repeat (first | exact Bel.refl _ | assumption | refine Bel.drew ?_ | refine Bel.drewN ?_ _ | refine Bel.alloc ?_ _ | refine Bel.setCell ?_ (by first | omega | (simp; done) | (simp; omega) | (simp at *; omega)) _ | refine Bel.trans ?_ (by assumption)))
  generalize madeCells #[.int .i64 0] 21 = C at *
  go_enter Try.func103, Try.ntmps103
  go_wp2
  go_loopw [4] (fun i wr => ∃ k : Nat, k ≤ n ∧ i = .int .i64 k ∧ Bel w wr ∧ Row wr w.heap.size 21 21 (massF (gs.take k))) (fun i _ => n - (intOf i).toNat)
  case atStart => exact ⟨0, Nat.zero_le _, rfl, hb0, hrow⟩
  case round =>
    clear hrow hb0 hmk
    obtain ⟨k, hk, rfl, hb, hr1⟩ := hrel
    by_cases hlt : k < n
    · obtain ⟨b, o, s, m, rfl, hbl, hg, hc1, hc2⟩ := (hR.bel hb).at_ (k := k) (by rw [Hn.out]; exact hlt)
      obtain ⟨⟨hm3, hm4⟩, hm1, hm2⟩ := hm (s, m) (List.mem_of_getElem? hg)
      simp only at hm1 hm2 hm3 hm4
      obtain ⟨s', rfl⟩ := Int.eq_ofNat_of_zero_le (by omega : 0 ≤ s)
      obtain ⟨v1, v2⟩ := massF_bd s' (hm.take k).mass
      have hl := List.length_take_le k gs
      have hv : massF (gs.take k) s' ≤ 600 := by omega
      clear v2 hl
      have HT := Lib.hid (take_at hg)
      have HS := Lib.hid (massF_snoc (gs.take k) s' m)
      clear hg hm
      have hs21 : (s' : Int) < 21 := by omega
      have hs0 : (0 : Int) ≤ (s' : Int) := by omega
      have hkn : (k : Int) < (n : Int) := by omega
      have hk0 : (0 : Int) ≤ (k : Int) := by omega
      have q1 := hr1.cells s' (by omega)
      have q2 := hr1.fz s'
      have q3 := hr1.lt
      go_wp2
      go_region
      go_wp2
      go_roundw
      case rel =>
        refine ⟨k + 1, by omega, by go_num, by (repeat (first | exact Bel.refl _ | assumption | refine Bel.drew ?_ | refine Bel.drewN ?_ _ | refine Bel.alloc ?_ _ | refine Bel.setCell ?_ (by first | omega | (simp; done) | (simp; omega) | (simp at *; omega)) _ | refine Bel.trans ?_ (by assumption))), (hr1.upd1 (by omega) ?_ ?_).drew⟩
        · rw [HT.out, HS.out, if_pos rfl]
        · intro j hj
          rw [HT.out, HS.out, if_neg (by omega), Int.add_zero]
      case measure => simp [intOf]; omega
    · obtain rfl : k = n := by omega
      have ht : gs.take k = gs := List.take_of_length_le (by rw [Hn.out]; omega)
      rw [ht] at hr1
      clear ht
      go_wp2
      go_ret
      exact ⟨_, rfl, Nat.le_refl _, hb, hr1⟩

/-- A new slice that reads as l. -/
def MadeLot (w : World) (l : List (Int × Int)) (e : Ending) (w' : World) : Prop :=
  ∃ A n c, e = .returned (.slice A n c) ∧ n = l.length ∧ n ≤ c ∧ c ≤ maxLen ∧ Bel w w' ∧ Prs w' A l

set_option maxHeartbeats 1000000 in
theorem rlot_any (g c : Nat) (f : Nat → Int) (w : World) (hr : Row w g 21 21 f) (hf0 : f 0 = 0) (hpos : ∀ i, 0 ≤ f i) : Calls Try.prog 104 #[.slice (some ⟨g, 0, none⟩) 21 c] w (MadeLot w (lotF f)) := by
  obtain ⟨i0, hi, hz0, hz1, hz2⟩ := info_parts info2G
  have h1 : lotN f 1 = [] := by simp [lotN, List.range_succ, hf0]
  have H1 := Lib.hid h1; clear h1
  go_enter Try.func104, Try.ntmps104
  go_wp2
  go_loopw [3, 4] (fun u i wr => ∃ k : Nat, 1 ≤ k ∧ k ≤ 21 ∧ i = .int .i64 k ∧ Bel w wr ∧ Own2 58 w.heap.size wr u (lotN f k)) (fun _ i _ => 21 - (intOf i).toNat)
  case atStart => exact ⟨1, Nat.le_refl _, by omega, rfl, Bel.refl _, by rw [H1.out]; exact Own2.nil _ _ _⟩
  case round =>
    obtain ⟨k, hk1, hk, rfl, hb, ho⟩ := hrel
    by_cases hlt : k < 21
    · have hrw := hr.bel hb
      have q1 := hrw.cells k hlt
      have hp := hpos k
      have HS := Lib.hid (lotN_succ f k)
      have hln := lotN_len f k
      have hgl := hrw.lt
      generalize hX : lotN f k = X at *
      have HX := Lib.hid hX; clear hX
      have hX1 : X.length + 1 ≤ maxLen := by unfold maxLen; omega
      have hX2 : (X.length + 1) * 16 ≤ 140737488355328 := by omega
      have HX1 := Lib.hid hX1; have HX2 := Lib.hid hX2
      clear hX1 hX2
      have hk21 : (k : Int) < 21 := by omega
      have hk0 : (0 : Int) ≤ (k : Int) := by omega
      by_cases hz : 0 < f k
      · have hS2 : lotN f (k + 1) = X ++ [((k : Int), f k)] := by rw [HS.out, if_pos (by omega)]
        have HS2 := Lib.hid hS2; clear hS2
        have hsz := hb.size
        clear hrw
        go_wp2_with (at_builtin; refine wpList_append_own_at _ rfl (.tmp 16) (.tmp 23) 22 rfl w.heap.size 58 i0 _ 2 16 Try.underlying22 hi hz0 hz1 hz2 rfl (by decide) _ X.length (cel2 X) rfl (ho.alloc _) ⟨wr.heap.size, 0, none⟩ 1 1 [.int .i64 k, .int .i64 (f k)] rfl rfl (new2 _ _ _ _) (one2 _ _) HX1.out HX2.out (by simp; omega) ?_; intro v1 w3 hown3 hgr3 _ hat3; have hb3 : Bel w w3 := Bel.own (hb.alloc _) (ho.alloc _) hgr3 (Nat.le_refl _); have P1 := Own2.snoc hown3; clear hown3 hgr3 hat3 ho)
        go_roundw
        case rel => exact ⟨k + 1, by omega, by omega, by go_num, hb3, by rw [HS2.out]; exact P1⟩
        case measure => simp [intOf]; omega
      · have hS2 : lotN f (k + 1) = X := by rw [HS.out, if_neg (by omega)]; simp
        have HS2 := Lib.hid hS2; clear hS2
        go_wp2
        go_roundw
        case rel => exact ⟨k + 1, by omega, by omega, by go_num, hb, by rw [HS2.out]; exact ho⟩
        case measure => simp [intOf]; omega
    · obtain rfl : k = 21 := by omega
      obtain ⟨A1, n1, c1, rfl, hn1, hc1, hm1⟩ := own_form2 ho
      have HN1 := Lib.hid hn1; clear hn1
      go_wp2
      go_ret
      exact ⟨A1, n1, c1, rfl, HN1.out, hc1, hm1, hb, ho.prs⟩
end Go.Proofs.Ytnlcndhbamcpdaa
