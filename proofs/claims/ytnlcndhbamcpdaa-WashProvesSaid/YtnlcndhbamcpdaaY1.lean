/- The document's Settle. -/
import Derived.Test.YtnlcndhbamcpdaaZ1
import Derived.Test.YtnlcndhbamcpdaaZ2
namespace Go.Proofs.Ytnlcndhbamcpdaa
open Go.RowKit

/-- Settle's answer: two slices of fractions. -/
def TwoPrs (w : World) (xs ys : List (Int × Int)) (e : Ending) (w' : World) : Prop :=
  ∃ A n c B m d, e = .returned (.tuple #[.slice A n c, .slice B m d, .int .i64 0]) ∧ n = xs.length ∧ m = ys.length ∧ Bel w w' ∧ Prs w' A xs ∧ Prs w' B ys

set_option maxHeartbeats 1000000 in
theorem rSettle_ok (A : Option Addr) (n c : Nat) (gs : List (Int × Int)) (t d : Int) (w : World) (hR : Prs w A gs) (hn : gs.length = n) (he : errV gs = 0) (g1 : within t 0 100 = true) (g2 : within d 1 20 = true) :
    Calls Try.prog 63 #[.slice A n c, .int .i64 t, .int .i64 d] w (TwoPrs w (sunkL gs t d) (stayL gs t d)) := by
  obtain ⟨i0, hi, hz0, hz1, hz2⟩ := info_parts info2R
  obtain ⟨t1, t2⟩ := within_iff.1 g1
  obtain ⟨d1, d2⟩ := within_iff.1 g2
  have hm := fit_of gs he
  have h6 := (errV_zero he).1
  rw [hn] at h6
  rw [sunkL_eq hm t1 d1, stayL_eq hm t1 d1]
  have Hn := Lib.hid hn; clear hn
  have HE := Lib.hid he; clear he
  go_enter Try.func63, Try.ntmps63
  go_wp2_with fail
  refine (rvalidate_any A n c gs _ hR Hn.out (by unfold maxLen; omega)).mono ?_
  rintro e w1 ⟨rfl, hb1⟩
  rw [HE.out]
  go_wp2_with (go_at_call 52; refine (settling_any _ _ _).mono ?_; rintro e w' ⟨rfl, rfl⟩)
  go_loopw [10, 11, 12, 13] (fun u v i _ wr => ∃ k : Nat, k ≤ n ∧ i = .int .i64 k ∧ Bel w1 wr ∧ Own2 29 w1.heap.size wr u ((gs.take k).map fun g => nd (g.2 * skn g.1 t d) d) ∧ Own2 29 w1.heap.size wr v ((gs.take k).map fun g => nd (g.2 * (d - skn g.1 t d)) d) ∧ Apart u v) (fun _ _ i _ _ => n - (intOf i).toNat)
  case atStart => exact ⟨0, Nat.zero_le _, rfl, Bel.refl _, Own2.nil _ _ _, Own2.nil _ _ _, apart_nil _ _ _⟩
  case round =>
    obtain ⟨k, hk, rfl, hb, ho1, ho2, hap⟩ := hrel
    by_cases hlt : k < n
    · obtain ⟨b, o, s, m, rfl, hbl, hg, hc1, hc2⟩ := (hR.bel (hb1.trans hb)).at_ (k := k) (by rw [Hn.out]; exact hlt)
      obtain ⟨⟨hm3, hm4⟩, hm1, hm2⟩ := hm (s, m) (List.mem_of_getElem? hg)
      have HT := Lib.hid (take_at hg)
      have hcell : ∀ w', Bel w1 w' → w'.cell? ⟨b, o + k * 2 + 1, none⟩ = some (.int .i64 m) := fun w' h => ((hR.bel (hb1.trans h)).cellsAt hg).2
      have HC := Lib.hid hcell; clear hcell
      have hlk : (gs.take k).length ≤ 6 := by have := List.length_take_le k gs; omega
      clear hg hm
      simp only at hm1 hm2 hm3 hm4
      obtain ⟨y1, y2⟩ := mul_bd (A := 20) (B := 100) (by omega : 0 ≤ s) hm4 t1 t2
      obtain ⟨y3, y4⟩ := skn_bd (s := s) (t := t) (d := d) (by omega) t1 d1
      obtain ⟨y5, y6⟩ := mul_bd (A := 100) (B := 20) (by omega : 0 ≤ m) hm2 y3 (by omega)
      obtain ⟨y7, y8⟩ := mul_bd (A := 100) (B := 20) (b := d - skn s t d) (by omega : 0 ≤ m) hm2 (by omega) (by omega)
      generalize hX : (gs.take k).map (fun g => nd (g.2 * skn g.1 t d) d) = X at ho1
      generalize hY : (gs.take k).map (fun g => nd (g.2 * (d - skn g.1 t d)) d) = Y at ho2
      have hXl : X.length ≤ 6 := by rw [← hX, List.length_map]; exact hlk
      have hYl : Y.length ≤ 6 := by rw [← hY, List.length_map]; exact hlk
      have HX := Lib.hid hX; clear hX
      have HY := Lib.hid hY; clear hY
      have hX1 : X.length + 1 ≤ maxLen := by unfold maxLen; omega
      have hX2 : (X.length + 1) * 16 ≤ 140737488355328 := by omega
      have hY1 : Y.length + 1 ≤ maxLen := by unfold maxLen; omega
      have hY2 : (Y.length + 1) * 16 ≤ 140737488355328 := by omega
      have HX1 := Lib.hid hX1; have HX2 := Lib.hid hX2; have HY1 := Lib.hid hY1; have HY2 := Lib.hid hY2
      clear hX1 hX2 hY1 hY2
      go_wp2_with fail
      refine (sinks_any _ _ _ _ (by omega) (by omega)).mono ?_
      rintro e w' ⟨rfl, rfl⟩
      go_wp2_with fail
      refine (ratio_any _ _ _ (by omega) (by omega) (by omega) (by omega)).mono ?_
      rintro e w2 ⟨rfl, hb2⟩
      have ho12 := ho1.bel hb2
      have ho22 := ho2.bel (hb2.alloc (.cells #[.int .i64 (num (m * skn s t d) d), .int .i64 (den (m * skn s t d) d)] 29))
      have hw2 := hb.trans hb2
      have hsz2 := hw2.size
      go_wp2_with (at_builtin; refine wpList_append_own_at _ rfl (.tmp 37) (.tmp 47) 69 rfl w1.heap.size 29 i0 _ 2 16 Try.underlying69 hi hz0 hz1 hz2 rfl (by decide) _ X.length (cel2 X) rfl (ho12.alloc _) ⟨w2.heap.size, 0, none⟩ 1 1 [.int .i64 (num (m * skn s t d) d), .int .i64 (den (m * skn s t d) d)] rfl rfl (new2 _ _ _ _) (one2 _ _) HX1.out HX2.out (by simp; omega) ?_; intro v1 w3 hown3 hgr3 _ hat3; have hb3 : Bel w1 w3 := Bel.own (hw2.alloc _) (ho12.alloc _) hgr3 (Nat.le_refl _); have P1 := Own2.snoc hown3; have P2 := ho22.kept hap.symm hgr3; have hap3 := ho22.apart hap.symm hat3; have hcm := HC.out _ hb3; clear hown3 hgr3 hat3 hap ho1 ho2 ho12 ho22)
      refine (ratio_any _ _ _ (by omega) (by omega) (by omega) (by omega)).mono ?_
      rintro e w4 ⟨rfl, hb4⟩
      have P1' := P1.bel hb4
      have P2' := P2.bel hb4
      have hw4 := hb3.trans hb4
      have hsz4 := hw4.size
      have P1'' := P1'.bel ((Bel.refl w4).alloc (.cells #[.int .i64 (num (m * (d - skn s t d)) d), .int .i64 (den (m * (d - skn s t d)) d)] 29))
      clear P1 P2
      go_wp2_with (at_builtin; refine wpList_append_own_at _ rfl (.tmp 49) (.tmp 61) 69 rfl w1.heap.size 29 i0 _ 2 16 Try.underlying69 hi hz0 hz1 hz2 rfl (by decide) _ Y.length (cel2 Y) rfl (P2'.alloc _) ⟨w4.heap.size, 0, none⟩ 1 1 [.int .i64 (num (m * (d - skn s t d)) d), .int .i64 (den (m * (d - skn s t d)) d)] rfl rfl (new2 _ _ _ _) (one2 _ _) HY1.out HY2.out (by simp; omega) ?_; intro v2 w5 hown5 hgr5 _ hat5; have hb5 : Bel w1 w5 := Bel.own (hw4.alloc _) (P2'.alloc _) hgr5 (Nat.le_refl _); have R2 := Own2.snoc hown5; have R1 := P1''.kept hap3.symm hgr5; have hap5 := P1''.apart hap3.symm hat5; clear hown5 hgr5 hat5 hap3 P1' P1'' P2')
      go_roundw
      case rel => exact ⟨k + 1, by omega, by go_num, hb5, by rw [HT.out, List.map_append, HX.out]; exact R1, by rw [HT.out, List.map_append, HY.out]; exact R2, hap5⟩
      case measure => simp [intOf]; omega
    · obtain rfl : k = n := by omega
      have ht : gs.take k = gs := List.take_of_length_le (by rw [Hn.out]; omega)
      rw [ht] at ho1 ho2
      clear ht
      obtain ⟨A1, n1, c1, rfl, hn1⟩ := ho1.form
      obtain ⟨A2, n2, c2, rfl, hn2⟩ := ho2.form
      have HN1 := Lib.hid hn1; have HN2 := Lib.hid hn2
      clear hn1 hn2
      go_wp2
      go_ret3
      exact ⟨_, _, _, _, _, _, rfl, HN1.out, HN2.out, hb1.trans hb, ho1.prs, ho2.prs⟩

set_option maxHeartbeats 400000 in
theorem rSettle_err (A : Option Addr) (n c : Nat) (gs : List (Int × Int)) (t d : Int) (w : World) (hR : Prs w A gs) (hn : gs.length = n) (hmax : n ≤ maxLen) (x : Int)
    (hx : (errV gs = x ∧ x ≠ 0) ∨ (errV gs = 0 ∧ (within t 0 100 && within d 1 20) = false ∧ x = 1)) :
    Calls Try.prog 63 #[.slice A n c, .int .i64 t, .int .i64 d] w fun e w' => e = .returned (.tuple #[.slice none 0 0, .slice none 0 0, .int .i64 x]) ∧ Bel w w' := by
  rcases hx with ⟨hx, h0⟩ | ⟨hx, h0, rfl⟩
  · have HX := Lib.hid hx; clear hx
    have hne : (x != 0) = true := by simpa using h0
    clear h0
    go_enter Try.func63, Try.ntmps63
    go_wp2_with fail
    refine (rvalidate_any A n c gs _ hR hn hmax).mono ?_
    rintro e w1 ⟨rfl, hb1⟩
    rw [HX.out]
    go_wp2
    go_ret3
    exact ⟨rfl, hb1⟩
  · have HX := Lib.hid hx; clear hx
    cases g1 : within t 0 100 <;> cases g2 : within d 1 20
    case true.true => simp [g1, g2] at h0
    all_goals
      clear h0
      go_enter Try.func63, Try.ntmps63
      go_wp2_with fail
      refine (rvalidate_any A n c gs _ hR hn hmax).mono ?_
      rintro e w1 ⟨rfl, hb1⟩
      rw [HX.out]
      go_wp2_with (go_at_call 52; refine (settling_any _ _ _).mono ?_; rintro e w' ⟨rfl, rfl⟩)
      go_ret3
      exact ⟨rfl, hb1⟩
end Go.Proofs.Ytnlcndhbamcpdaa
