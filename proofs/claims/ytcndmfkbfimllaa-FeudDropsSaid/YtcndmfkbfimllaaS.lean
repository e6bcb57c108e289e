/- The document's Within, Validate, Feud. -/
import Derived.Test.YtcndmfkbfimllaaR
namespace Go.Proofs.Ytcndmfkbfimllaa
open Go.RowKit Go.Maps

def withinB (n lo hi : Int) : Bool := decide (lo ≤ n) && decide (n ≤ hi)
theorem withinB_iff {n lo hi : Int} : withinB n lo hi = true ↔ lo ≤ n ∧ n ≤ hi := by simp [withinB]
theorem within_any (n lo hi : Int) (w : World) : Calls Try.prog 87 #[.int .i64 n, .int .i64 lo, .int .i64 hi] w fun e w' => e = .returned (.bool (withinB n lo hi)) ∧ w = w' := by
  by_cases h1 : lo ≤ n
  · by_cases h2 : n ≤ hi
    · have HW := Lib.hid (withinB_iff.2 ⟨h1, h2⟩)
      go_enter Try.func87, Try.ntmps87
      go_wp2
      go_ret
      exact ⟨ret_bool (by rw [HW.out]), rfl⟩
    · have HW := Lib.hid (show withinB n lo hi = false by rw [Bool.eq_false_iff]; exact fun e => h2 (withinB_iff.1 e).2)
      have h3 : hi < n := by omega
      go_enter Try.func87, Try.ntmps87
      go_wp2
      go_ret
      exact ⟨ret_bool (by rw [HW.out]), rfl⟩
  · have HW := Lib.hid (show withinB n lo hi = false by rw [Bool.eq_false_iff]; exact fun e => h1 (withinB_iff.1 e).1)
    have h3 : n < lo := by omega
    clear h1
    go_enter Try.func87, Try.ntmps87
    go_wp2
    go_ret
    exact ⟨ret_bool (by rw [HW.out]), rfl⟩
theorem nodup_snoc {α : Type} {l : List α} {x : α} : (l ++ [x]).Nodup ↔ l.Nodup ∧ x ∉ l := by
  rw [List.nodup_append]
  simp
  intro _
  constructor
  · intro h hx; exact h x hx rfl
  · intro h a ha e; subst e; exact h ha
theorem not_nodup {α : Type} {l : List α} {i k : Nat} {x : α} (hk : l[k]? = some x) (hi : l[i]? = some x) (h : k < i) : ¬ l.Nodup := by
  intro hn
  obtain ⟨h1, rfl⟩ := List.getElem?_eq_some_iff.1 hi
  obtain ⟨h2, e⟩ := List.getElem?_eq_some_iff.1 hk
  have := List.pairwise_iff_getElem.1 hn k i h2 h1 h
  exact this e

set_option maxRecDepth 100000 in
set_option maxHeartbeats 2000000 in
theorem rValidate_any (p : Int) (A : Option Addr) (n c : Nat) (F : List (Int × Int)) (w : World) (hR : Prs w A F) (hn : F.length = n) (h60 : n ≤ 900) :
    Calls Try.prog 45 #[.agg #[.int .i64 p, .slice A n c]] w fun e w' => e = .returned (.int .i64 (errF p F)) ∧ Bel w w' := by
  have Hn := Lib.hid hn
  have hm : (n : Int) ≤ 900 := by omega
  clear hn
  have Held := Lib.hid (fun w' (h : Bel (w.alloc (.cells #[.int .i64 p, .slice A n c] 24)) w') => pair_box h)
  by_cases hp : 1 ≤ p ∧ p ≤ 7
  · have HW := Lib.hid (withinB_iff.2 hp)
    obtain ⟨p1, p2⟩ := hp
    have HE : Hid (errF p F = if F.all (okF p) = true then if F.Nodup then 0 else 6 else 1) := by show errF p F = _; unfold errF; rw [if_pos ⟨p1, p2⟩]
    go_enter Try.func45, Try.ntmps45
    go_wp2_with fail
    refine (within_any p 1 7 _).mono ?_
    rintro e w1 ⟨rfl, rfl⟩
    rw [HW.out]
    go_wp2
    go_loopw [3] (fun i wr => ∃ k : Nat, k ≤ n ∧ i = .int .i64 k ∧ Bel (w.alloc (.cells #[.int .i64 p, .slice A n c] 24)) wr ∧ (F.drop k).all (okF p) = F.all (okF p)) (fun i _ => n - (intOf i).toNat)
    case atStart => exact ⟨0, Nat.zero_le _, rfl, Bel.refl _, rfl⟩
    case round =>
      obtain ⟨k, hk, rfl, hb, hs⟩ := hrel
      have HS := Lib.hid hs
      have hbw : Bel w wr := ((Bel.refl w).alloc _).trans hb
      obtain ⟨b0, b1⟩ := Held.out _ hb
      have hsz : w.heap.size < wr.heap.size := by have := hb.size; simp at this; omega
      clear hs
      by_cases hlt : k < n
      · obtain ⟨b, o, x, y, rfl, hbl, hg, hc1, hc2⟩ := (hR.bel hbw).at_ (k := k) (by rw [Hn.out]; exact hlt)
        have HG := Lib.hid (all_step (p := p) hg)
        clear hg
        by_cases h1 : 0 ≤ x
        · by_cases h3 : y < p
          · by_cases h2 : x < y
            · have hs2 := Lib.hid (show (F.drop (k + 1)).all (okF p) = F.all (okF p) by rw [← HS.out, HG.out, okF_iff.2 ⟨h1, h2, h3⟩]; rfl)
              go_wp2
              go_roundw
              case rel => exact ⟨k + 1, by omega, by go_num, by (repeat (first | exact Bel.refl _ | assumption | refine Bel.drew ?_ | refine Bel.drewN ?_ _ | refine Bel.alloc ?_ _ | refine Bel.setCell ?_ (by first | omega | (simp; done) | (simp; omega) | (simp at *; omega)) _ | refine Bel.trans ?_ (by assumption))), hs2.out⟩
              case measure => simp [intOf]; omega
            · have h2' : y ≤ x := by omega
              have HF := Lib.hid (show errF p F = 1 by rw [HE.out, ← HS.out, HG.out, if_neg (by intro h; rw [Bool.and_eq_true] at h; have := okF_iff.1 h.1; simp only at this; omega)])
              go_wp2
              go_ret
              exact ⟨ret_int HF.out.symm, by (repeat (first | exact Bel.refl _ | assumption | refine Bel.drew ?_ | refine Bel.drewN ?_ _ | refine Bel.alloc ?_ _ | refine Bel.setCell ?_ (by first | omega | (simp; done) | (simp; omega) | (simp at *; omega)) _ | refine Bel.trans ?_ (by assumption)))⟩
          · have h3' : p ≤ y := by omega
            have HF := Lib.hid (show errF p F = 1 by rw [HE.out, ← HS.out, HG.out, if_neg (by intro h; rw [Bool.and_eq_true] at h; have := okF_iff.1 h.1; simp only at this; omega)])
            go_wp2
            go_ret
            exact ⟨ret_int HF.out.symm, by (repeat (first | exact Bel.refl _ | assumption | refine Bel.drew ?_ | refine Bel.drewN ?_ _ | refine Bel.alloc ?_ _ | refine Bel.setCell ?_ (by first | omega | (simp; done) | (simp; omega) | (simp at *; omega)) _ | refine Bel.trans ?_ (by assumption)))⟩
        · have h1' : x < 0 := by omega
          have HF := Lib.hid (show errF p F = 1 by rw [HE.out, ← HS.out, HG.out, if_neg (by intro h; rw [Bool.and_eq_true] at h; have := okF_iff.1 h.1; simp only at this; omega)])
          go_wp2
          go_ret
          exact ⟨ret_int HF.out.symm, by (repeat (first | exact Bel.refl _ | assumption | refine Bel.drew ?_ | refine Bel.drewN ?_ _ | refine Bel.alloc ?_ _ | refine Bel.setCell ?_ (by first | omega | (simp; done) | (simp; omega) | (simp at *; omega)) _ | refine Bel.trans ?_ (by assumption)))⟩
      · obtain rfl : k = n := by omega
        have hall : F.all (okF p) = true := by rw [← HS.out, List.drop_of_length_le (by rw [Hn.out]; omega)]; rfl
        have HE2 := Lib.hid (show errF p F = if F.Nodup then 0 else 6 by rw [HE.out, if_pos hall])
        clear hall
        go_wp2
        clear b0 b1
        go_loopw [5] (fun i wr => ∃ j : Nat, j ≤ k ∧ i = .int .i64 j ∧ Bel (w.alloc (.cells #[.int .i64 p, .slice A k c] 24)) wr ∧ (F.take j).Nodup) (fun i _ => k - (intOf i).toNat)
        case atStart => exact ⟨0, Nat.zero_le _, rfl, hb, List.nodup_nil⟩
        case round =>
          clear hbw hsz hlt hb
          obtain ⟨j, hj, rfl, hb, hnd⟩ := hrel
          have HND := Lib.hid hnd
          obtain ⟨b0, b1⟩ := Held.out _ hb
          clear hnd
          by_cases hlt : j < k
          · have hjk : (j : Int) < (k : Int) := by omega
            have hbw : Bel w wr := ((Bel.refl w).alloc _).trans hb
            obtain ⟨b, o, x, y, rfl, hbl, hg, hc1, hc2⟩ := (hR.bel hbw).at_ (k := j) (by rw [Hn.out]; exact hlt)
            have HG := Lib.hid hg
            clear hg
            go_wp2
            go_loopw [6] (fun i wr => ∃ m : Nat, m ≤ j ∧ i = .int .i64 m ∧ Bel (w.alloc (.cells #[.int .i64 p, .slice (some ⟨b, o, none⟩) k c] 24)) wr ∧ (x, y) ∉ F.take m) (fun i _ => j - (intOf i).toNat)
            case atStart => exact ⟨0, Nat.zero_le _, rfl, hb, by simp⟩
            case round =>
              clear hb b0 b1 hbw hc1 hc2 hbl
              obtain ⟨m, hm1, rfl, hb, hni⟩ := hrel
              have HNI := Lib.hid hni
              obtain ⟨b0, b1⟩ := Held.out _ hb
              have hbw : Bel w wr := ((Bel.refl w).alloc _).trans hb
              clear hni
              by_cases hltm : m < j
              · have hmj : (m : Int) < (j : Int) := by omega
                have hmk : (m : Int) < (k : Int) := by omega
                obtain ⟨b', o', x', y', hA, hbl, hg', hc1, hc2⟩ := (hR.bel hbw).at_ (k := m) (by rw [Hn.out]; omega)
                obtain ⟨b2, o2, x2, y2, hA2, -, hg2, hc3, hc4⟩ := (hR.bel hbw).at_ (k := j) (by rw [Hn.out]; exact hlt)
                rw [HG.out] at hg2
                injection hg2 with hg2
                injection hg2 with e1 e2
                subst e1 e2
                injection hA with hA; injection hA with e1 e2 e3; subst e1 e2
                injection hA2 with hA2; injection hA2 with e4 e5 e6; subst e4 e5
                have HG' := Lib.hid hg'
                clear hg'
                by_cases hx : x' = x
                · subst hx
                  by_cases hy : y' = y
                  · subst hy
                    have HF := Lib.hid (show errF p F = 6 by rw [HE2.out, if_neg (not_nodup HG'.out HG.out hltm)])
                    go_wp2
                    go_quiet (fail)
                    go_wp2
                    go_ret
                    exact ⟨ret_int HF.out.symm, by (repeat (first | exact Bel.refl _ | assumption | refine Bel.drew ?_ | refine Bel.drewN ?_ _ | refine Bel.alloc ?_ _ | refine Bel.setCell ?_ (by first | omega | (simp; done) | (simp; omega) | (simp at *; omega)) _ | refine Bel.trans ?_ (by assumption)))⟩
                  · have hyn : (y' == y) = false := by simpa using hy
                    have HN2 := Lib.hid (show (x', y) ∉ F.take (m + 1) by
                      rw [take_at HG'.out, List.mem_append, List.mem_singleton]
                      rintro (h | h)
                      · exact HNI.out h
                      · injection h with h1 h2; exact hy h2.symm)
                    go_wp2
                    go_quiet (fail)
                    go_wp2
                    go_roundw
                    case rel => exact ⟨m + 1, by omega, by go_num, by (repeat (first | exact Bel.refl _ | assumption | refine Bel.drew ?_ | refine Bel.drewN ?_ _ | refine Bel.alloc ?_ _ | refine Bel.setCell ?_ (by first | omega | (simp; done) | (simp; omega) | (simp at *; omega)) _ | refine Bel.trans ?_ (by assumption))), HN2.out⟩
                    case measure => simp [intOf]; omega
                · have hxn : (x' == x) = false := by simpa using hx
                  have HN2 := Lib.hid (show (x, y) ∉ F.take (m + 1) by
                    rw [take_at HG'.out, List.mem_append, List.mem_singleton]
                    rintro (h | h)
                    · exact HNI.out h
                    · injection h with h1 h2; exact hx h1.symm)
                  clear hx
                  go_wp2
                  go_quiet (fail)
                  go_wp2
                  go_roundw
                  case rel => exact ⟨m + 1, by omega, by go_num, by (repeat (first | exact Bel.refl _ | assumption | refine Bel.drew ?_ | refine Bel.drewN ?_ _ | refine Bel.alloc ?_ _ | refine Bel.setCell ?_ (by first | omega | (simp; done) | (simp; omega) | (simp at *; omega)) _ | refine Bel.trans ?_ (by assumption))), HN2.out⟩
                  case measure => simp [intOf]; omega
              · obtain rfl : m = j := by omega
                have hn2 := Lib.hid (show (F.take (m + 1)).Nodup by rw [take_at HG.out, nodup_snoc]; exact ⟨HND.out, HNI.out⟩)
                go_wp2
                go_roundw
                case rel => exact ⟨m + 1, by omega, by go_num, hb, hn2.out⟩
                case measure => simp [intOf]; omega
          · obtain rfl : j = k := by omega
            have HF := Lib.hid (show errF p F = 0 by rw [HE2.out, if_pos (by have := HND.out; rwa [List.take_of_length_le (by rw [Hn.out]; omega)] at this)])
            go_wp2
            go_ret
            exact ⟨ret_int HF.out.symm, by (repeat (first | exact Bel.refl _ | assumption | refine Bel.drew ?_ | refine Bel.drewN ?_ _ | refine Bel.alloc ?_ _ | refine Bel.setCell ?_ (by first | omega | (simp; done) | (simp; omega) | (simp at *; omega)) _ | refine Bel.trans ?_ (by assumption)))⟩
  · have HW := Lib.hid (show withinB p 1 7 = false by rw [Bool.eq_false_iff]; exact fun e => hp (withinB_iff.1 e))
    have HE : Hid (errF p F = 1) := by show errF p F = 1; unfold errF; rw [if_neg hp]
    clear hp
    go_enter Try.func45, Try.ntmps45
    go_wp2_with fail
    obtain ⟨b0, b1⟩ := Held.out _ (Bel.refl _)
    refine (within_any p 1 7 _).mono ?_
    rintro e w1 ⟨rfl, rfl⟩
    rw [HW.out]
    go_wp2
    go_ret
    exact ⟨ret_int HE.out.symm, by (repeat (first | exact Bel.refl _ | assumption | refine Bel.drew ?_ | refine Bel.drewN ?_ _ | refine Bel.alloc ?_ _ | refine Bel.setCell ?_ (by first | omega | (simp; done) | (simp; omega) | (simp at *; omega)) _ | refine Bel.trans ?_ (by assumption)))⟩
end Go.Proofs.Ytcndmfkbfimllaa
