/- Lots made of the masses by size. -/
import Derived.Test.YtmbhhooiaonhjaaAA
namespace Go.Proofs.Ytmbhhooiaonhjaa
open Go.RowKit

/-- The grains of the first k sizes. -/
def lotN (f : Nat → Int) (k : Nat) : List (Int × Int) := (List.range k).filterMap fun i => if f i ≠ 0 then some ((i : Int), f i) else none
theorem lotN_succ (f : Nat → Int) (k : Nat) : lotN f (k + 1) = lotN f k ++ (if f k ≠ 0 then [((k : Int), f k)] else []) := by
  unfold lotN
  rw [List.range_succ, List.filterMap_append]
  by_cases h : f k = 0 <;> simp [h]
theorem lotN_len (f : Nat → Int) (k : Nat) : (lotN f k).length ≤ k := by
  unfold lotN
  exact Nat.le_trans (List.length_filterMap_le _ _) (by simp)
def lotF (f : Nat → Int) : List (Int × Int) := lotN f 21
theorem own_form2 {e base : Nat} {w : World} {v : Value} {l : List (Int × Int)} (h : Own2 e base w v l) : ∃ A n c, v = .slice A n c ∧ n = l.length ∧ n ≤ c ∧ c ≤ maxLen := by
  rcases h.2 with ⟨rfl, h0⟩ | ⟨g, cap, cur, rfl, _, _, h1, h2, _⟩
  · exact ⟨_, _, _, rfl, h0.symm, Nat.le_refl _, by decide⟩
  · exact ⟨_, _, _, rfl, rfl, h1, h2⟩
/-- A new slice that reads as l, and OK. -/
def OneLot (w : World) (l : List (Int × Int)) (e : Ending) (w' : World) : Prop :=
  ∃ A n c, e = .returned (.tuple #[.slice A n c, .int .i64 0]) ∧ n = l.length ∧ n ≤ c ∧ c ≤ maxLen ∧ Bel w w' ∧ Prs w' A l
/-- A lot, or the error of Validate. -/
def LotAns (w : World) (l : List (Int × Int)) (e : Ending) (w' : World) : Prop :=
  (errV l = 0 ∧ OneLot w l e w') ∨ (errV l ≠ 0 ∧ e = .returned (.tuple #[.slice none 0 0, .int .i64 (errV l)]) ∧ Bel w w')

set_option maxHeartbeats 1000000 in
theorem wlot_any (f : Nat → Int) (w : World) : Calls Try.prog 53 #[.agg (arrL f).toArray] w (LotAns w (lotF f)) := by
  obtain ⟨i0, hi, hz0, hz1, hz2⟩ := info_parts info2G
  have hidx := fun i hi W => run_index21 f i hi W
  have Hidx := Lib.hid hidx; clear hidx
  have hrow : Row (w.alloc (.cells (arrL f).toArray 88)) w.heap.size 21 21 f := Row.whole _ _ _ _ _ fun i hi => by simpa using arrL_at f hi
  have hinf2 : (Try.prog.info? 88).map (·.size) = some (arrL f).length := by rw [infoArr, arrL_length]
  have Hinf2 := Lib.hid hinf2; clear hinf2
  go_enter Try.func53, Try.ntmps53
  go_wp2_with (refine wpList_load_mid rfl 88 _ rfl w.heap.size 0 rfl (arrL f) _ hrow.range Try.underlying88 rfl Hinf2.out ?_)
  have hb0 : Bel w (w.alloc (.cells (arrL f).toArray 88)) := by (repeat (first | exact Bel.refl _ | assumption | refine Bel.drew ?_ | refine Bel.drewN ?_ _ | refine Bel.alloc ?_ _ | refine Bel.setCell ?_ (by first | omega | (simp; done) | (simp; omega) | (simp at *; omega)) _ | refine Bel.trans ?_ (by assumption)))
  generalize hw0 : w.alloc (.cells (arrL f).toArray 88) = w0 at *
  clear hw0 hrow
  go_loopw [4, 5, 6, 9] (fun u _ _ i wr => ∃ k : Nat, k ≤ 21 ∧ i = .int .i64 k ∧ Bel w0 wr ∧ Own2 52 w0.heap.size wr u (lotN f k)) (fun _ _ _ i _ => 21 - (intOf i).toNat)
  case atStart => exact ⟨0, Nat.zero_le _, rfl, Bel.refl _, Own2.nil _ _ _⟩
  case round =>
    obtain ⟨k, hk, rfl, hb, ho⟩ := hrel
    by_cases hlt : k < 21
    · have hix := Hidx.out k hlt
      have HS := Lib.hid (lotN_succ f k)
      have hln := lotN_len f k
      generalize hX : lotN f k = X at *
      have HX := Lib.hid hX; clear hX
      have hX1 : X.length + 1 ≤ maxLen := by unfold maxLen; omega
      have hX2 : (X.length + 1) * 16 ≤ 140737488355328 := by omega
      have HX1 := Lib.hid hX1; have HX2 := Lib.hid hX2
      clear hX1 hX2
      have hk21 : (k : Int) < 21 := by omega
      by_cases hz : f k = 0
      · have hbz : (f k != 0) = false := by simpa using hz
        have hS2 : lotN f (k + 1) = X := by rw [HS.out, if_neg (by simpa using hz)]; simp
        have HS2 := Lib.hid hS2; clear hS2
        clear hz
        go_wp2
        go_roundw
        case rel => exact ⟨k + 1, by omega, by go_num, hb, by rw [HS2.out]; exact ho⟩
        case measure => simp [intOf]; omega
      · have hbz : (f k != 0) = true := by simpa using hz
        have hS2 : lotN f (k + 1) = X ++ [((k : Int), f k)] := by rw [HS.out, if_pos hz]
        have HS2 := Lib.hid hS2; clear hS2
        clear hz
        have hsz := hb.size
        go_wp2_with (at_builtin; refine wpList_append_own_at _ rfl (.tmp 15) (.tmp 19) 22 rfl w0.heap.size 52 i0 _ 2 16 Try.underlying22 hi hz0 hz1 hz2 rfl (by decide) _ X.length (cel2 X) rfl (ho.alloc _) ⟨wr.heap.size, 0, none⟩ 1 1 [.int .i64 k, .int .i64 (f k)] rfl rfl (new2 _ _ _ _) (one2 _ _) HX1.out HX2.out (by simp; omega) ?_; intro v1 w3 hown3 hgr3 _ hat3; have hb3 : Bel w0 w3 := Bel.own (hb.alloc _) (ho.alloc _) hgr3 (Nat.le_refl _); have P1 := Own2.snoc hown3; clear hown3 hgr3 hat3 ho)
        go_roundw
        case rel => exact ⟨k + 1, by omega, by go_num, hb3, by rw [HS2.out]; exact P1⟩
        case measure => simp [intOf]; omega
    · obtain rfl : k = 21 := by omega
      obtain ⟨A1, n1, c1, rfl, hn1, hc1, hm1⟩ := own_form2 ho
      have hp := ho.prs
      have hl := lotN_len f 21
      have HN1 := Lib.hid hn1
      rw [← hn1] at hl
      clear hn1 ho
      by_cases he : errV (lotF f) = 0
      · have HE := Lib.hid he; clear he
        go_wp2_with fail
        refine (validate_any A1 n1 c1 (lotF f) _ hp HN1.out.symm (by unfold maxLen; omega)).mono ?_
        rintro e w4 ⟨rfl, hb4⟩
        rw [HE.out]
        go_wp2
        go_ret2
        exact .inl ⟨HE.out, A1, n1, c1, rfl, HN1.out, hc1, hm1, (hb0.trans hb).trans hb4, hp.bel hb4⟩
      · have hne : (errV (lotF f) != 0) = true := by simpa using he
        go_wp2_with fail
        refine (validate_any A1 n1 c1 (lotF f) _ hp HN1.out.symm (by unfold maxLen; omega)).mono ?_
        rintro e w4 ⟨rfl, hb4⟩
        go_wp2
        go_ret2
        exact .inr ⟨he, rfl, (hb0.trans hb).trans hb4⟩
end Go.Proofs.Ytmbhhooiaonhjaa

