/- The document's marks. -/
import Derived.Test.YtmckoehkekkldaaUC
import Derived.Test.YtmckoehkekkldaaV
namespace Go.Proofs.Ytmckoehkekkldaa
open Go.RowKit

def Own3 (e base : Nat) (w : World) (v : Value) (l : List M3) : Prop := w.ownsRow base e 3 v l.length (cel3 l)
theorem info3A : (Try.prog.info? 77).map (fun i => (i.zero, i.size, i.bytes)) = some (some (.agg #[.int .i64 0, .int .i64 0, .int .i64 0]), 3, 24) := by kernel_rfl
theorem new3i (w : World) (a b c : Int) (ty : TypeId) (g : Nat) (hg : g = w.heap.size) : ∀ j u, [Value.int .i64 a, .int .i64 b, .int .i64 c][j]? = some u → (w.alloc (.cells #[.int .i64 a, .int .i64 b, .int .i64 c] ty)).cell? ((⟨g, 0, none⟩ : Addr).add j) = some u := by
  subst hg
  intro j u hj
  rw [Go.Addr.add_mid]
  match j, hj with
  | 0, hj => simpa using hj
  | 1, hj => simpa using hj
  | 2, hj => simpa using hj
theorem one3i (a b c : Int) : ∀ u ∈ [Value.int .i64 a, .int .i64 b, .int .i64 c], u.oneCell' = true := by
  intro u hu
  simp at hu
  rcases hu with rfl | rfl | rfl <;> rfl
set_option maxRecDepth 100000 in
set_option maxHeartbeats 4000000 in
theorem rMarks3_any (k : Nat) (w : World) : Calls Try.prog 100 #[.int .i64 (k : Int)] w fun e w' => ∃ A n c, e = .returned (.slice A n c) ∧ n = (mksL k 27).length ∧ n ≤ c ∧ Bel w w' ∧ Mks w' A (mksL k 27) := by
  obtain ⟨i0, hi, hz0, hz1, hz2⟩ := info_parts info3A
  go_enter Try.func100, Try.ntmps100
  go_wp2
  go_loopw [3, 4, 5, 6, 7, 8] (fun v i _ _ _ _ wr => ∃ n : Nat, n ≤ 27 ∧ i = .int .i64 n ∧ Bel w wr ∧ Own3 77 w.heap.size wr v (mksL k n)) (fun _ i _ _ _ _ _ => 27 - (intOf i).toNat)
  case atStart => exact ⟨0, Nat.zero_le _, rfl, Bel.refl _, World.ownsRow_nil _ _ _ _⟩
  case round =>
    obtain ⟨n, hn, rfl, hb, hO⟩ := hrel
    by_cases hlt : n < 27
    · have hki : (n : Int) < 27 := by omega
      obtain ⟨wo, hwo⟩ : ∃ wo : World, wo = wr := ⟨_, rfl⟩
      subst hwo
      have e0 : (n : Int) % 3 - 1 = tri n 0 := by unfold tri; rw [if_pos rfl]; omega
      have e1 : (n : Int) / 3 % 3 - 1 = tri n 1 := by unfold tri; rw [if_neg (by decide), if_pos rfl]; omega
      have e2 : (n : Int) / 9 - 1 = tri n 2 := by unfold tri; rw [if_neg (by decide), if_neg (by decide)]; omega
      have hrow : Row (wo.alloc (.cells #[.int .i64 ((n : Int) % 3 - 1), .int .i64 ((n : Int) / 3 % 3 - 1), .int .i64 ((n : Int) / 9 - 1)] 77)) wo.heap.size 3 3 (tri n) := by
        rw [e0, e1, e2]
        exact row3 wo (tri n) 77
      have HROW := Lib.hid hrow
      have HBD := Lib.hid (fun i => tri_bd n i hlt)
      clear e0 e1 e2 hrow
      go_wp2
      go_loopw [6, 7, 8] (fun r f i wq => ∃ j : Nat, j ≤ 3 ∧ i = .int .i64 j ∧ r = .bool (rightT n k j) ∧ f = .int .i64 (firstT n j) ∧ Bel wo wq ∧ Row wq wo.heap.size 3 3 (tri n)) (fun _ _ i _ => 3 - (intOf i).toNat)
      case atStart => exact ⟨0, by omega, rfl, rfl, rfl, by (repeat (first | exact Bel.refl _ | assumption | refine Bel.drew ?_ | refine Bel.drewN ?_ _ | refine Bel.alloc ?_ _ | refine Bel.setCell ?_ (by first | omega | (simp; done) | (simp; omega) | (simp at *; omega)) _ | refine Bel.trans ?_ (by assumption))), HROW.out⟩
      case round =>
        obtain ⟨j, hj, rfl, rfl, rfl, hbj, hrw⟩ := hrel
        by_cases hlj : j < 3
        · have hji : (j : Int) < 3 := by omega
          have hj0 : (0 : Int) ≤ (j : Int) := by omega
          have hc := hrw.cells j hlj
          have hlt' := hrw.lt
          have hR : rightT n k (j + 1) = (rightT n k j && (decide (j < k) || decide (tri n j = 0))) := rfl
          have hF : firstT n (j + 1) = if firstT n j = 0 then tri n j else firstT n j := rfl
          have HRW := Lib.hid hrw
          clear hrw
          obtain ⟨rv, hrv⟩ : ∃ rv, rv = rightT n k j := ⟨_, rfl⟩
          obtain ⟨fv, hfv⟩ : ∃ fv, fv = firstT n j := ⟨_, rfl⟩
          obtain ⟨tv, htv⟩ : ∃ tv, tv = tri n j := ⟨_, rfl⟩
          rw [← hrv, ← htv] at hR
          rw [← hfv, ← htv] at hF
          rw [← hrv, ← hfv]
          rw [← htv] at hc
          clear hrv hfv htv
          have HR := Lib.hid hR; have HF := Lib.hid hF
          clear hR hF
          cases rv
          · by_cases f0 : fv = 0
            · subst f0
              have X1 : Hid (rightT n k (j + 1) = false) := HR.out
              have X2 : Hid (firstT n (j + 1) = tv) := by show _ = _; rw [HF.out, if_pos rfl]
              go_wp2
              go_roundw
              case rel => exact ⟨j + 1, by omega, by go_num, by rw [X1.out], by rw [X2.out], hbj, HRW.out⟩
              case measure => simp [intOf]; omega
            · have X1 : Hid (rightT n k (j + 1) = false) := HR.out
              have X2 : Hid (firstT n (j + 1) = fv) := by show _ = _; rw [HF.out, if_neg f0]
              go_wp2
              go_roundw
              case rel => exact ⟨j + 1, by omega, by go_num, by rw [X1.out], by rw [X2.out], hbj, HRW.out⟩
              case measure => simp [intOf]; omega
          · by_cases hjk : j < k
            · have hjki : (j : Int) < (k : Int) := by omega
              have X1 : Hid (rightT n k (j + 1) = true) := by show _ = _; rw [HR.out, decide_eq_true hjk]; rfl
              by_cases f0 : fv = 0
              · subst f0
                have X2 : Hid (firstT n (j + 1) = tv) := by show _ = _; rw [HF.out, if_pos rfl]
                go_wp2
                go_roundw
                case rel => exact ⟨j + 1, by omega, by go_num, by rw [X1.out], by rw [X2.out], hbj, HRW.out⟩
                case measure => simp [intOf]; omega
              · have X2 : Hid (firstT n (j + 1) = fv) := by show _ = _; rw [HF.out, if_neg f0]
                go_wp2
                go_roundw
                case rel => exact ⟨j + 1, by omega, by go_num, by rw [X1.out], by rw [X2.out], hbj, HRW.out⟩
                case measure => simp [intOf]; omega
            · have hjki : ¬ (j : Int) < (k : Int) := by omega
              by_cases t0 : tv = 0
              · subst t0
                have X1 : Hid (rightT n k (j + 1) = true) := by show _ = _; rw [HR.out]; simp
                by_cases f0 : fv = 0
                · subst f0
                  have X2 : Hid (firstT n (j + 1) = 0) := by show _ = _; rw [HF.out, if_pos rfl]
                  go_wp2
                  go_roundw
                  case rel => exact ⟨j + 1, by omega, by go_num, by rw [X1.out], by rw [X2.out], hbj, HRW.out⟩
                  case measure => simp [intOf]; omega
                · have X2 : Hid (firstT n (j + 1) = fv) := by show _ = _; rw [HF.out, if_neg f0]
                  go_wp2
                  go_roundw
                  case rel => exact ⟨j + 1, by omega, by go_num, by rw [X1.out], by rw [X2.out], hbj, HRW.out⟩
                  case measure => simp [intOf]; omega
              · have X1 : Hid (rightT n k (j + 1) = false) := by show _ = _; rw [HR.out, decide_eq_false hjk, decide_eq_false t0]; rfl
                have T0 := Lib.hid (show (tv == 0) = false by simpa using t0)
                by_cases f0 : fv = 0
                · subst f0
                  have X2 : Hid (firstT n (j + 1) = tv) := by show _ = _; rw [HF.out, if_pos rfl]
                  go_wp2
                  go_roundw
                  case rel => exact ⟨j + 1, by omega, by go_num, by rw [X1.out, T0.out], by rw [X2.out], hbj, HRW.out⟩
                  case measure => simp [intOf]; omega
                · have X2 : Hid (firstT n (j + 1) = fv) := by show _ = _; rw [HF.out, if_neg f0]
                  go_wp2
                  go_roundw
                  case rel => exact ⟨j + 1, by omega, by go_num, by rw [X1.out, T0.out], by rw [X2.out], hbj, HRW.out⟩
                  case measure => simp [intOf]; omega
        · obtain rfl : j = 3 := by omega
          have hIN : inT k n = (rightT n k 3 && decide (firstT n 3 = 1)) := rfl
          have hS := mksL_succ k n
          obtain ⟨rv, hrv⟩ : ∃ rv, rv = rightT n k 3 := ⟨_, rfl⟩
          obtain ⟨fv, hfv⟩ : ∃ fv, fv = firstT n 3 := ⟨_, rfl⟩
          rw [← hrv, ← hfv] at hIN
          rw [← hrv, ← hfv]
          clear hrv hfv
          rw [hIN] at hS
          obtain ⟨ll, hll⟩ : ∃ ll, ll = mksL k n := ⟨_, rfl⟩
          have hlen := mksL_length k n
          rw [← hll] at hS hO hlen
          clear hll hIN
          have hO1 : wo.ownsRow w.heap.size 77 3 u3 ll.length (cel3 ll) := hO
          have hbw : Bel w wr := hb.trans hbj
          have hsz := hbw.size
          obtain ⟨c0, c1, c2⟩ := hrw.three
          clear hrw
          cases rv
          · have HS : Hid (mksL k (n + 1) = ll) := by show _ = _; rw [hS]; rfl
            clear hS
            go_wp2
            go_roundw
            case rel => exact ⟨n + 1, by omega, by go_num, hbw, by rw [HS.out]; exact ownsRow_bel hO1 hbj⟩
            case measure => simp [intOf]; omega
          · by_cases f1 : fv = 1
            · subst f1
              have HS : Hid (mksL k (n + 1) = ll ++ [triL n]) := by show _ = _; rw [hS]; rfl
              have hX1 := Lib.hid (show ll.length + 1 ≤ maxLen by unfold maxLen; omega)
              have hX2 := Lib.hid (show (ll.length + 1) * 24 ≤ 140737488355328 by omega)
              clear hS
              go_wp2_with (at_builtin; go_loud (refine wpList_append_lies _ rfl (.tmp 50) (.tmp 52) 95 rfl w.heap.size 77 i0 _ 3 24 Try.underlying95 hi hz0 hz1 hz2 rfl (by decide) u3 ll.length (cel3 ll) (by rfl) ((ownsRow_bel hO1 hbj).alloc _) ⟨wr.heap.size, 0, none⟩ 1 1 [.int .i64 (tri n 0), .int .i64 (tri n 1), .int .i64 (tri n 2)] (by rfl) rfl (new3i _ _ _ _ _ _ rfl) (one3i _ _ _) (by omega) hX1.out hX2.out (by simp <;> omega) _ rfl ?_); intro g3 cap3 w6 hown3 hgr3 hat3 hlt3)
              have hB6 := grown_own (w := w) (hbw.alloc _) (ownsRow_bel hO1 hbj) (Nat.le_refl _) hgr3
              have hO6 : Own3 77 w.heap.size w6 (.slice (some ⟨g3, 0, none⟩) (ll.length + 1) cap3) (mksL k (n + 1)) := by
                rw [HS.out]
                unfold Own3
                rw [List.length_append, cel3_append]
                exact hown3
              have HO6 := Lib.hid hO6
              clear hown3 hgr3 hat3 hlt3 hO6 hO hO1
              go_roundw
              case rel => exact ⟨n + 1, by omega, by go_num, hB6, HO6.out⟩
              case measure => simp [intOf]; omega
            · have HS : Hid (mksL k (n + 1) = ll) := by show _ = _; rw [hS, decide_eq_false f1]; rfl
              clear hS
              go_wp2
              go_roundw
              case rel => exact ⟨n + 1, by omega, by go_num, hbw, by rw [HS.out]; exact ownsRow_bel hO1 hbj⟩
              case measure => simp [intOf]; omega
    · obtain rfl : n = 27 := by omega
      obtain ⟨A', n', c', rfl, hn', hM, hcap⟩ : ∃ A n c, u3 = .slice A n c ∧ n = (mksL k 27).length ∧ Mks wr A (mksL k 27) ∧ n ≤ c := by
        rcases hO.2 with ⟨rfl, h0⟩ | ⟨g, cap, cur, rfl, hb', hg, hn, hm, hs, ht⟩
        · exact ⟨none, 0, 0, rfl, by omega, .inl (List.eq_nil_of_length_eq_zero h0), Nat.le_refl _⟩
        · exact ⟨_, _, _, rfl, rfl, mks_of_own hO, by omega⟩
      have HN := Lib.hid hn'; have HM := Lib.hid hM
      clear hn' hM hO
      go_wp2
      go_ret
      exact ⟨A', n', c', rfl, HN.out, hcap, hb, HM.out⟩
end Go.Proofs.Ytmckoehkekkldaa
