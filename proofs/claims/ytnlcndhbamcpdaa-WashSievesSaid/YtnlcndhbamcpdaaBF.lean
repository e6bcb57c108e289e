/- The document's Sieve. -/
import Derived.Test.YtnlcndhbamcpdaaBE
import Derived.Test.YtnlcndhbamcpdaaY1
namespace Go.Proofs.Ytnlcndhbamcpdaa
open Go.RowKit

def fineL (gs : List (Int × Int)) (size : Int) : List (Int × Int) := gs.filter fun g => decide (g.1 ≤ size)
def roughL (gs : List (Int × Int)) (size : Int) : List (Int × Int) := gs.filter fun g => !decide (g.1 ≤ size)
theorem fineL_le (gs : List (Int × Int)) (size : Int) : (fineL gs size).length ≤ gs.length := List.length_filter_le _ _
theorem roughL_le (gs : List (Int × Int)) (size : Int) : (roughL gs size).length ≤ gs.length := List.length_filter_le _ _
theorem fineL_in {gs : List (Int × Int)} {size s m : Int} (h : s ≤ size) : fineL (gs ++ [(s, m)]) size = fineL gs size ++ [(s, m)] := by simp [fineL, List.filter_append, h]
theorem fineL_out {gs : List (Int × Int)} {size s m : Int} (h : ¬ s ≤ size) : fineL (gs ++ [(s, m)]) size = fineL gs size := by simp [fineL, List.filter_append, h]
theorem roughL_in {gs : List (Int × Int)} {size s m : Int} (h : ¬ s ≤ size) : roughL (gs ++ [(s, m)]) size = roughL gs size ++ [(s, m)] := by simp [roughL, List.filter_append, h]
theorem roughL_out {gs : List (Int × Int)} {size s m : Int} (h : s ≤ size) : roughL (gs ++ [(s, m)]) size = roughL gs size := by simp [roughL, List.filter_append, h]
theorem fine_eq {last : Int} {gs : List (Int × Int)} (size : Int) (h : scan last gs = true) : fineL gs size = gs.takeWhile fun g => decide (g.1 ≤ size) := by
  induction gs generalizing last with
  | nil => rfl
  | cons g r ih =>
    have h0 := h
    simp only [scan, Bool.and_eq_true, decide_eq_true_eq] at h
    have i := ih h.2
    unfold fineL at i ⊢
    by_cases a : g.1 ≤ size
    · simp [a, i]
    · have e : r.filter (fun g => decide (g.1 ≤ size)) = [] := by
        rw [List.filter_eq_nil_iff]
        intro x hx
        have := scan_mem h.2 x hx
        simp
        omega
      simp [a, e]
theorem rough_eq {last : Int} {gs : List (Int × Int)} (size : Int) (h : scan last gs = true) : roughL gs size = gs.dropWhile fun g => decide (g.1 ≤ size) := by
  induction gs generalizing last with
  | nil => rfl
  | cons g r ih =>
    have h0 := h
    simp only [scan, Bool.and_eq_true, decide_eq_true_eq] at h
    have i := ih h.2
    unfold roughL at i ⊢
    by_cases a : g.1 ≤ size
    · simp [a, i]
    · have e : r.filter (fun g => !decide (g.1 ≤ size)) = r := by
        rw [List.filter_eq_self]
        intro x hx
        have := scan_mem h.2 x hx
        simp
        omega
      simp [a, e]
theorem take_fine {gs : List (Int × Int)} (size : Int) (h : errV gs = 0) : gs.take (upto gs size) = fineL gs size := by rw [upto_take, fine_eq size (scan_of h)]
theorem drop_rough {gs : List (Int × Int)} (size : Int) (h : errV gs = 0) : gs.drop (upto gs size) = roughL gs size := by
  rw [rough_eq size (scan_of h)]
  unfold upto
  have e := List.takeWhile_append_dropWhile (p := fun g : Int × Int => decide (g.1 ≤ size)) (l := gs)
  generalize gs.takeWhile (fun g : Int × Int => decide (g.1 ≤ size)) = X at *
  generalize gs.dropWhile (fun g : Int × Int => decide (g.1 ≤ size)) = Y at *
  rw [← e, List.drop_left]

set_option maxHeartbeats 1000000 in
theorem rSieve_ok (A : Option Addr) (n c : Nat) (gs : List (Int × Int)) (size : Int) (w : World) (hR : Prs w A gs) (hn : gs.length = n) (he : errV gs = 0) :
    Calls Try.prog 48 #[.slice A n c, .int .i64 size] w (TwoPrs w (fineL gs size) (roughL gs size)) := by
  obtain ⟨i0, hi, hz0, hz1, hz2⟩ := info_parts info2G
  have h6 := (errV_zero he).1
  rw [hn] at h6
  have Hn := Lib.hid hn; clear hn
  have HE := Lib.hid he; clear he
  go_enter Try.func48, Try.ntmps48
  go_wp2_with fail
  refine (rvalidate_any A n c gs _ hR Hn.out (by unfold maxLen; omega)).mono ?_
  rintro e w1 ⟨rfl, hb1⟩
  rw [HE.out]
  go_wp2
  go_loopw [8, 9, 10] (fun u v i wr => ∃ k : Nat, k ≤ n ∧ i = .int .i64 k ∧ Bel w1 wr ∧ Own2 58 w1.heap.size wr u (fineL (gs.take k) size) ∧ Own2 58 w1.heap.size wr v (roughL (gs.take k) size) ∧ Apart u v) (fun _ _ i _ => n - (intOf i).toNat)
  case atStart => exact ⟨0, Nat.zero_le _, rfl, Bel.refl _, Own2.nil _ _ _, Own2.nil _ _ _, apart_nil _ _ _⟩
  case round =>
    obtain ⟨k, hk, rfl, hb, ho1, ho2, hap⟩ := hrel
    by_cases hlt : k < n
    · obtain ⟨b, o, s, m, rfl, hbl, hg, hc1, hc2⟩ := (hR.bel (hb1.trans hb)).at_ (k := k) (by rw [Hn.out]; exact hlt)
      have HT := Lib.hid (take_at hg)
      clear hg
      have hlk : (gs.take k).length ≤ 6 := by have := List.length_take_le k gs; omega
      have hXl := Nat.le_trans (fineL_le (gs.take k) size) hlk
      have hYl := Nat.le_trans (roughL_le (gs.take k) size) hlk
      have HX := Lib.hid (rfl : fineL (gs.take k) size = fineL (gs.take k) size)
      have HY := Lib.hid (rfl : roughL (gs.take k) size = roughL (gs.take k) size)
      obtain ⟨X, hX⟩ : ∃ X, X = fineL (gs.take k) size := ⟨_, rfl⟩
      obtain ⟨Y, hY⟩ : ∃ Y, Y = roughL (gs.take k) size := ⟨_, rfl⟩
      rw [← hX] at ho1 hXl
      rw [← hY] at ho2 hYl
      have HX := Lib.hid hX; have HY := Lib.hid hY
      clear hX hY hlk
      have hX1 : X.length + 1 ≤ maxLen := by unfold maxLen; omega
      have hX2 : (X.length + 1) * 16 ≤ 140737488355328 := by omega
      have hY1 : Y.length + 1 ≤ maxLen := by unfold maxLen; omega
      have hY2 : (Y.length + 1) * 16 ≤ 140737488355328 := by omega
      have HX1 := Lib.hid hX1; have HX2 := Lib.hid hX2; have HY1 := Lib.hid hY1; have HY2 := Lib.hid hY2
      clear hX1 hX2 hY1 hY2
      have hsz := hb.size
      by_cases hs : s ≤ size
      · have HF1 := Lib.hid (fineL_in (gs := gs.take k) (m := m) hs)
        have HF2 := Lib.hid (roughL_out (gs := gs.take k) (m := m) hs)
        have ho22 := ho2.alloc (.cells #[.int .i64 s, .int .i64 m] 58)
        go_wp2_with (at_builtin; refine wpList_append_own_at _ rfl (.tmp 29) (.tmp 34) 22 rfl w1.heap.size 58 i0 _ 2 16 Try.underlying22 hi hz0 hz1 hz2 rfl (by decide) _ X.length (cel2 X) rfl (ho1.alloc _) ⟨wr.heap.size, 0, none⟩ 1 1 [.int .i64 s, .int .i64 m] rfl rfl (new2 _ _ _ _) (one2 _ _) HX1.out HX2.out (by simp; omega) ?_; intro v1 w3 hown3 hgr3 _ hat3; have hb3 : Bel w1 w3 := Bel.own (hb.alloc _) (ho1.alloc _) hgr3 (Nat.le_refl _); have P1 := Own2.snoc hown3; have P2 := ho22.kept hap.symm hgr3; have hap3 := ho22.apart hap.symm hat3; clear hown3 hgr3 hat3 hap ho1 ho2 ho22)
        go_roundw
        case rel => exact ⟨k + 1, by omega, by go_num, hb3, by rw [HT.out, HF1.out, ← HX.out]; exact P1, by rw [HT.out, HF2.out, ← HY.out]; exact P2, hap3.symm⟩
        case measure => simp [intOf]; omega
      · have HF1 := Lib.hid (fineL_out (gs := gs.take k) (m := m) hs)
        have HF2 := Lib.hid (roughL_in (gs := gs.take k) (m := m) hs)
        have ho11 := ho1.alloc (.cells #[.int .i64 s, .int .i64 m] 58)
        go_wp2_with (at_builtin; refine wpList_append_own_at _ rfl (.tmp 36) (.tmp 41) 22 rfl w1.heap.size 58 i0 _ 2 16 Try.underlying22 hi hz0 hz1 hz2 rfl (by decide) _ Y.length (cel2 Y) rfl (ho2.alloc _) ⟨wr.heap.size, 0, none⟩ 1 1 [.int .i64 s, .int .i64 m] rfl rfl (new2 _ _ _ _) (one2 _ _) HY1.out HY2.out (by simp; omega) ?_; intro v1 w3 hown3 hgr3 _ hat3; have hb3 : Bel w1 w3 := Bel.own (hb.alloc _) (ho2.alloc _) hgr3 (Nat.le_refl _); have P2 := Own2.snoc hown3; have P1 := ho11.kept hap hgr3; have hap3 := ho11.apart hap hat3; clear hown3 hgr3 hat3 hap ho1 ho2 ho11)
        go_roundw
        case rel => exact ⟨k + 1, by omega, by go_num, hb3, by rw [HT.out, HF1.out, ← HX.out]; exact P1, by rw [HT.out, HF2.out, ← HY.out]; exact P2, hap3⟩
        case measure => simp [intOf]; omega
    · obtain rfl : k = n := by omega
      have ht : gs.take k = gs := List.take_of_length_le (by rw [Hn.out]; omega)
      rw [ht] at ho1 ho2
      clear ht
      obtain ⟨A1, n1, c1, rfl, hn1⟩ := ho1.form
      obtain ⟨A2, n2, c2, rfl, hn2⟩ := ho2.form
      have HN1 := Lib.hid hn1; have HN2 := Lib.hid hn2
      clear hn1 hn2
      go_wp2
      go_ret3
      exact ⟨_, _, _, _, _, _, rfl, HN1.out, HN2.out, hb1.trans hb, ho1.prs, ho2.prs⟩

theorem rSieve_err (A : Option Addr) (n c : Nat) (gs : List (Int × Int)) (size : Int) (w : World) (hR : Prs w A gs) (hn : gs.length = n) (hmax : n ≤ maxLen) (he : errV gs ≠ 0) :
    Calls Try.prog 48 #[.slice A n c, .int .i64 size] w fun e w' => e = .returned (.tuple #[.slice none 0 0, .slice none 0 0, .int .i64 (errV gs)]) ∧ Bel w w' := by
  have hne : (errV gs != 0) = true := by simpa using he
  go_enter Try.func48, Try.ntmps48
  go_wp2_with fail
  refine (rvalidate_any A n c gs _ hR hn hmax).mono ?_
  rintro e w1 ⟨rfl, hb1⟩
  go_wp2
  go_ret3
  exact ⟨rfl, hb1⟩
end Go.Proofs.Ytnlcndhbamcpdaa
