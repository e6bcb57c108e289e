/- The program's Marks, Most, CanTell, Least. -/
import Derived.Test.YtmckoehkekkldaaP
namespace Go.Proofs.Ytmckoehkekkldaa
open Go.RowKit

/-- The marks of the lots. -/
def marksT (P : List Wg) (n : Nat) : List (List Int) := (List.range n).map fun x : Nat => markL P (x : Int)
theorem marksT_length (P : List Wg) (n : Nat) : (marksT P n).length = n := by simp [marksT]
theorem marksT_succ (P : List Wg) (n : Nat) : marksT P (n + 1) = marksT P n ++ [markL P (n : Int)] := by simp [marksT, List.range_succ]

set_option maxRecDepth 100000 in
set_option maxHeartbeats 4000000 in
theorem marks_ok (lo n : Nat) (A : Option Addr) (m c : Nat) (P : List Wg) (w : World) (hR : Plan lo w A P) (hm : P.length = m) (hG : Good n P) :
    Calls Try.prog 51 #[.int .i64 (n : Int), .slice A m c] w fun e w' => ∃ A' c', e = .returned (.tuple #[.slice A' n c', .int .i64 0]) ∧ Bel w w' ∧ Tab w.heap.size w' A' (marksT P n) := by
  obtain ⟨i0, hi, hz0, hz1, hz2⟩ := info_parts info1S
  have Hm := Lib.hid hm; have HGo := Lib.hid hG; have HE := Lib.hid hG.err
  have hn13 := hG.le
  have hm3 : m ≤ 3 := by rw [← hm]; exact hG.few
  clear hm hG
  go_enter Try.func51, Try.ntmps51
  go_wp2_with (first | (go_at_call 43; refine (validate_any lo n A m c P _ (hR.bel (by (repeat (first | exact Bel.refl _ | assumption | refine Bel.drew ?_ | refine Bel.drewN ?_ _ | refine Bel.alloc ?_ _ | refine Bel.setCell ?_ (by first | omega | (simp; done) | (simp; omega) | (simp at *; omega)) _ | refine Bel.trans ?_ (by assumption))))) Hm.out).mono ?_; rintro e w1 ⟨rfl, hb1⟩; rw [HE.out]) | (go_at_call 80; refine (marksOf_any lo n A m c P _ (hR.bel (by (repeat (first | exact Bel.refl _ | assumption | refine Bel.drew ?_ | refine Bel.drewN ?_ _ | refine Bel.alloc ?_ _ | refine Bel.setCell ?_ (by first | omega | (simp; done) | (simp; omega) | (simp at *; omega)) _ | refine Bel.trans ?_ (by assumption))))) Hm.out HGo.out).mono ?_; rintro e w2 ⟨gm, rfl, hgm, hb2, hM⟩))
  have hs1 := hb1.size; have hs2 := hb2.size
  have hBw : Bel w w2 := hb1.trans hb2
  have hglt := hM.lt
  clear hb1 hb2
  go_loopw [7, 9, 20] (fun v _ i wr => ∃ k : Nat, k ≤ n ∧ i = .int .i64 k ∧ Bel w2 wr ∧ OwnT w2.heap.size wr v (marksT P k)) (fun _ _ i _ => n - (intOf i).toNat)
  case atStart => exact ⟨0, Nat.zero_le _, rfl, Bel.refl _, OwnT.nil _ _⟩
  case round =>
    obtain ⟨k, hk, rfl, hb, hO⟩ := hrel
    by_cases hlt : k < n
    · obtain ⟨vs, hO⟩ := hO
      have hM' : Marks wr gm n P := Row.bel hM hb
      obtain ⟨c0, c1, c2⟩ := hM'.at_ hlt
      have hlen := marksT_length P k
      have hO1 := hO.own
      rw [hlen] at hO1
      have hX1 := Lib.hid (show k + 1 ≤ maxLen by unfold maxLen; omega)
      have hX2 := Lib.hid (show (k + 1) * 24 ≤ 140737488355328 by omega)
      have hbase := hb.size
      have hki : (k : Int) < (n : Int) := by omega
      clear hM'
      go_wp2_with fail
      refine (list_any (markN P (k : Int)) m _ hm3).mono ?_
      rintro e w4 ⟨v4, rfl, hO4, hb4⟩
      rw [← Hm.out, listL_mark] at hO4
      obtain ⟨A1, n1, c1', rfl, hn1, hI1⟩ := hO4.form
      rw [markL_length, Hm.out] at hn1
      subst hn1
      have hf1 := fun b o (hA : A1 = some ⟨b, o, none⟩) => World.ownsRow.lt hO4 b (by rw [hA]; rfl)
      have hb14 : Bel wr w4 := by (repeat (first | exact Bel.refl _ | assumption | refine Bel.drew ?_ | refine Bel.drewN ?_ _ | refine Bel.alloc ?_ _ | refine Bel.setCell ?_ (by first | omega | (simp; done) | (simp; omega) | (simp at *; omega)) _ | refine Bel.trans ?_ (by assumption)))
      have hs4 := hb14.size
      clear hO4 c0 c1 c2
      go_wp2_with (at_builtin; go_loud (refine wpList_append_lies _ rfl (.tmp 24) (.tmp 29) 33 rfl w2.heap.size 28 i0 _ 1 24 Try.underlying33 hi hz0 hz1 hz2 rfl (by decide) u7 k vs (by rfl) ((ownsRow_bel hO1 hb14).alloc _) ⟨w4.heap.size, 0, none⟩ 1 1 [.slice A1 n1 c1'] (by rfl) rfl (newS _ _ _ _ rfl) (oneS _ _ _) (by omega) hX1.out hX2.out (by simp <;> omega) _ rfl ?_); intro g3 cap3 w3 hown3 hgr3 hat3 hlt3)
      have hO3 := OwnTV.snoc (g := g3) ((hO.bel hb14).bel ((Bel.refl w4).alloc _)) (hI1.bel ((Bel.refl w4).alloc _)) (by rw [markL_length, Hm.out]) (by unfold maxLen; omega) (fun b o hA => ⟨by have := (hf1 b o hA).2; simp <;> omega, fun e => by have h1 := (World.ownsRow.lt hO1 b e).2; have h2 := (hf1 b o hA).1; simp at h2; omega, by have h2 := (hf1 b o hA).1; simp at h2; omega⟩) (by rw [hlen]; exact hown3) hgr3 (by simpa using hat3)
      have hB3 := grown_own (w := w2) ((hb.trans hb14).alloc _) hO1 (Nat.le_refl _) hgr3
      rw [hlen] at hO3
      have HS : Hid (marksT P (k + 1) = marksT P k ++ [markL P (k : Int)]) := marksT_succ P k
      clear hown3 hgr3 hat3 hlt3 hI1 hf1 hb4 hb14 hO hO1
      go_roundw
      case rel => exact ⟨k + 1, by omega, by go_num, hB3, by rw [HS.out]; exact hO3⟩
      case measure => simp [intOf]; omega
    · obtain rfl : k = n := by omega
      obtain ⟨A', n', c', rfl, hn', hI⟩ := hO.form
      rw [marksT_length] at hn'
      subst hn'
      clear hO
      have HI := Lib.hid (hI.low (lo' := w.heap.size) hBw.size)
      have HB := Lib.hid (hBw.trans hb)
      go_wp2
      exact bodyPost_ret (v := .tuple #[.slice A' n' c', .int .i64 0]) (by simp [results, Try.results51, go_sem]) rfl ⟨A', c', rfl, HB.out, HI.out⟩
set_option maxRecDepth 100000 in
set_option maxHeartbeats 1000000 in
theorem marks_err (lo : Nat) (n : Int) (A : Option Addr) (m c : Nat) (P : List Wg) (w : World) (hR : Plan lo w A P) (hm : P.length = m) (hE : errV n P ≠ 0) :
    Calls Try.prog 51 #[.int .i64 n, .slice A m c] w fun e w' => e = .returned (.tuple #[.slice none 0 0, .int .i64 (errV n P)]) ∧ Bel w w' := by
  have hE' : (errV n P != 0) = true := by simpa using hE
  generalize hv : errV n P = v at *
  have HV := Lib.hid hv
  clear hv
  go_enter Try.func51, Try.ntmps51
  go_wp2_with (go_at_call 43; refine (validate_any lo n A m c P _ hR hm).mono ?_; rintro e w1 ⟨rfl, hb1⟩; rw [HV.out])
  exact bodyPost_ret (v := .tuple #[.slice none 0 0, .int .i64 v]) (by simp [results, Try.results51, go_sem]) rfl ⟨rfl, by (repeat (first | exact Bel.refl _ | assumption | refine Bel.drew ?_ | refine Bel.drewN ?_ _ | refine Bel.alloc ?_ _ | refine Bel.setCell ?_ (by first | omega | (simp; done) | (simp; omega) | (simp at *; omega)) _ | refine Bel.trans ?_ (by assumption)))⟩
/-- 3 to the power k. -/
def powN : Nat → Int
  | 0 => 1
  | k + 1 => powN k * 3
theorem results_any (k : Nat) (w : World) (hk : k ≤ 3) : Calls Try.prog 63 #[.int .i64 (k : Int)] w fun e w' => e = .returned (.int .i64 (powN k)) ∧ w = w' := by
  have hp : ∀ j, j ≤ 3 → 1 ≤ powN j ∧ powN j ≤ 27 := by
    intro j hj
    rcases (by omega : j = 0 ∨ j = 1 ∨ j = 2 ∨ j = 3) with rfl | rfl | rfl | rfl <;> decide
  have HP := Lib.hid hp
  clear hp
  go_enter Try.func63, Try.ntmps63
  go_wp2
  go_loop [3, 5] (fun v i => ∃ j : Nat, j ≤ k ∧ i = .int .i64 j ∧ v = .int .i64 (powN j)) (fun _ i => k - (intOf i).toNat)
  case atStart => exact ⟨0, Nat.zero_le _, rfl, rfl⟩
  case round =>
    obtain ⟨j, hj, rfl, rfl⟩ := hrel
    obtain ⟨p1, p2⟩ := HP.out j (by omega)
    by_cases hlt : j < k
    · have hji : (j : Int) < (k : Int) := by omega
      go_wp2
      go_round
      case rel => exact ⟨j + 1, by omega, by go_num, rfl⟩
      case measure => simp [intOf]; omega
    · obtain rfl : j = k := by omega
      go_wp2
      go_ret
      exact ⟨rfl, rfl⟩
/-- The most lots. -/
def mostN (k : Int) : Int := if k = 2 then 3 else if k = 3 then 12 else 0
def errM (k : Int) : Int := if 0 ≤ k ∧ k ≤ 3 then 0 else 1
set_option maxRecDepth 100000 in
theorem most_any (k : Int) (w : World) : Calls Try.prog 32 #[.int .i64 k] w fun e w' => e = .returned (.tuple #[.int .i64 (mostN k), .int .i64 (errM k)]) ∧ w = w' := by
  by_cases h : 0 ≤ k ∧ k ≤ 3
  · obtain ⟨j, rfl⟩ := Int.eq_ofNat_of_zero_le h.1
    have hj : j ≤ 3 := by omega
    rcases (by omega : j = 0 ∨ j = 1 ∨ j = 2 ∨ j = 3) with rfl | rfl | rfl | rfl
    · go_enter Try.func32, Try.ntmps32
      go_wp2_with (first | (go_at_call 62; refine (areWeighings_any _ _).mono ?_; rintro e w1 ⟨rfl, rfl⟩; rw [decide_eq_true (by omega)]) | (go_at_call 63; refine (results_any 0 _ hj).mono ?_; rintro e w1 ⟨rfl, rfl⟩; simp only [powN]))
      exact bodyPost_ret (v := .tuple #[.int .i64 0, .int .i64 0]) (by simp [results, Try.results32, go_sem]) rfl ⟨rfl, rfl⟩
    · go_enter Try.func32, Try.ntmps32
      go_wp2_with (first | (go_at_call 62; refine (areWeighings_any _ _).mono ?_; rintro e w1 ⟨rfl, rfl⟩; rw [decide_eq_true (by omega)]) | (go_at_call 63; refine (results_any 1 _ hj).mono ?_; rintro e w1 ⟨rfl, rfl⟩; simp only [powN]))
      exact bodyPost_ret (v := .tuple #[.int .i64 0, .int .i64 0]) (by simp [results, Try.results32, go_sem]) rfl ⟨rfl, rfl⟩
    · go_enter Try.func32, Try.ntmps32
      go_wp2_with (first | (go_at_call 62; refine (areWeighings_any _ _).mono ?_; rintro e w1 ⟨rfl, rfl⟩; rw [decide_eq_true (by omega)]) | (go_at_call 63; refine (results_any 2 _ hj).mono ?_; rintro e w1 ⟨rfl, rfl⟩; simp only [powN]))
      exact bodyPost_ret (v := .tuple #[.int .i64 3, .int .i64 0]) (by simp [results, Try.results32, go_sem]) rfl ⟨rfl, rfl⟩
    · go_enter Try.func32, Try.ntmps32
      go_wp2_with (first | (go_at_call 62; refine (areWeighings_any _ _).mono ?_; rintro e w1 ⟨rfl, rfl⟩; rw [decide_eq_true (by omega)]) | (go_at_call 63; refine (results_any 3 _ hj).mono ?_; rintro e w1 ⟨rfl, rfl⟩; simp only [powN]))
      exact bodyPost_ret (v := .tuple #[.int .i64 12, .int .i64 0]) (by simp [results, Try.results32, go_sem]) rfl ⟨rfl, rfl⟩
  · have hd : decide (0 ≤ k ∧ k ≤ 3) = false := by simpa using h
    have HV : Hid (mostN k = 0 ∧ errM k = 1) := ⟨by unfold mostN; rw [if_neg (by omega), if_neg (by omega)], by unfold errM; rw [if_neg h]⟩
    go_enter Try.func32, Try.ntmps32
    go_wp2_with (go_at_call 62; refine (areWeighings_any _ _).mono ?_; rintro e w1 ⟨rfl, rfl⟩; rw [hd])
    exact bodyPost_ret (v := .tuple #[.int .i64 0, .int .i64 1]) (by simp [results, Try.results32, go_sem]) rfl ⟨by rw [HV.out.1, HV.out.2], rfl⟩
end Go.Proofs.Ytmckoehkekkldaa
