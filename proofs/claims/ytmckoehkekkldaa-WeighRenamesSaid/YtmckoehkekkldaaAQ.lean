/- FromMarks of the program: lots that are not as often left as right. -/
import Derived.Test.YtmckoehkekkldaaAP
namespace Go.Proofs.Ytmckoehkekkldaa
open Go.RowKit

set_option maxRecDepth 100000 in
set_option maxHeartbeats 4000000 in
theorem sumG_any (g n c : Nat) (P : List Wg) (w : World) (hM : MarksR w g n P) (hn13 : n ≤ 13) :
    Calls Try.prog 95 #[.slice (some ⟨g, 0, none⟩) n c] w fun e w' => e = .returned (V3 fun i => sumT P i n) ∧ Bel w w' := by
  have HBD := Lib.hid (fun i x => sumT_bd P i x)
  have hb0 : Bel w ((w.alloc (.cells #[.int .i64 0, .int .i64 0, .int .i64 0] 78)).alloc (.cells #[.int .i64 0, .int .i64 0, .int .i64 0] 78)) := by (repeat (first | exact Bel.refl _ | assumption | refine Bel.drew ?_ | refine Bel.drewN ?_ _ | refine Bel.alloc ?_ _ | refine Bel.setCell ?_ (by first | omega | (simp; done) | (simp; omega) | (simp at *; omega)) _ | refine Bel.trans ?_ (by assumption)))
  have r0 : Row ((w.alloc (.cells #[.int .i64 0, .int .i64 0, .int .i64 0] 78)).alloc (.cells #[.int .i64 0, .int .i64 0, .int .i64 0] 78)) w.heap.size 3 3 (fun _ => 0) := (row3 w (fun _ => 0) 78).alloc _
  have r1 : Row ((w.alloc (.cells #[.int .i64 0, .int .i64 0, .int .i64 0] 78)).alloc (.cells #[.int .i64 0, .int .i64 0, .int .i64 0] 78)) (w.heap.size + 1) 3 3 (tot P 0 0) := by
    have := row3 (w.alloc (.cells #[.int .i64 0, .int .i64 0, .int .i64 0] 78)) (fun _ => 0) 78
    rw [World.size_alloc] at this
    exact this.congr fun i _ => by unfold tot; rw [if_neg (by omega)]; rfl
  have HB0 := Lib.hid hb0; have R0 := Lib.hid r0; have R1 := Lib.hid r1
  clear hb0 r0 r1
  go_enter Try.func95, Try.ntmps95
  go_wp2
  go_loopw [5, 6, 7, 10] (fun _ _ _ i wr => ∃ x : Nat, x ≤ n ∧ i = .int .i64 x ∧ Bel w wr ∧ w.heap.size + 2 ≤ wr.heap.size ∧ Row wr w.heap.size 3 3 (fun _ => 0) ∧ Row wr (w.heap.size + 1) 3 3 (tot P x 0)) (fun _ _ _ i _ => n - (intOf i).toNat)
  case atStart => exact ⟨0, Nat.zero_le _, rfl, HB0.out, by simp, R0.out, R1.out⟩
  case round =>
    obtain ⟨x, hx, rfl, hb, hsz, hr0, hr1⟩ := hrel
    by_cases hlt : x < n
    · obtain ⟨hgl, hmm⟩ := hM
      obtain ⟨m0, m1, m2⟩ := hmm x hlt
      have c0 : wr.cell? ⟨g, x * 3, none⟩ = _ := (hb.use.1 _ _ hgl).trans m0
      have c1 : wr.cell? ⟨g, x * 3 + 1, none⟩ = _ := (hb.use.1 _ _ hgl).trans m1
      have c2 : wr.cell? ⟨g, x * 3 + 2, none⟩ = _ := (hb.use.1 _ _ hgl).trans m2
      obtain ⟨wo, hwo⟩ : ∃ wo : World, wo = wr := ⟨_, rfl⟩
      subst hwo
      have hxi : (x : Int) < (n : Int) := by omega
      have HR0 := Lib.hid hr0; have HR1 := Lib.hid hr1
      have HMC := Lib.hid (fun i => markN_cases P (x : Int) i)
      clear m0 m1 m2 hr0 hr1
      go_wp2
      go_loopw [6, 7, 15] (fun _ _ i wr => ∃ j : Nat, j ≤ 3 ∧ i = .int .i64 j ∧ Bel w wr ∧ w.heap.size + 2 ≤ wr.heap.size ∧ Row wr w.heap.size 3 3 (fun _ => 0) ∧ Row wr (w.heap.size + 1) 3 3 (tot P x j)) (fun _ _ i _ => 3 - (intOf i).toNat)
      case atStart => exact ⟨0, by omega, rfl, by (repeat (first | exact Bel.refl _ | assumption | refine Bel.drew ?_ | refine Bel.drewN ?_ _ | refine Bel.alloc ?_ _ | refine Bel.setCell ?_ (by first | omega | (simp; done) | (simp; omega) | (simp at *; omega)) _ | refine Bel.trans ?_ (by assumption))), by simp; omega, HR0.out.alloc _, HR1.out.alloc _⟩
      case round =>
        obtain ⟨j, hj, rfl, hbj, hsj, hr0, hr1⟩ := hrel
        by_cases hjl : j < 3
        · have hc := hr1.cells j hjl
          have e1 : tot P x j j = sumT P j x := by unfold tot; rw [if_neg (by omega)]
          rw [e1] at hc
          have hfz := hr1.fz j
          have hl1 := hr1.lt
          have hbd := HBD.out j x
          have hbd2 := HMC.out j
          have hnx : Row (wr.setCell ⟨w.heap.size + 1, j, none⟩ (.int .i64 (sumT P j x + markN P (x : Int) j))) (w.heap.size + 1) 3 3 (tot P x (j + 1)) := (hr1.put hjl _).congr fun i _ => by
            by_cases e : i = j
            · subst e
              unfold tot
              rw [if_pos (by omega), if_pos rfl]
              rfl
            · rw [if_neg e]
              unfold tot
              by_cases e2 : i < j
              · rw [if_pos (by omega), if_pos e2]
              · rw [if_neg (by omega), if_neg e2]
          have HNX := Lib.hid hnx
          have HR0' := Lib.hid (hr0.far (p := ⟨w.heap.size + 1, j, none⟩) (by simp) (.int .i64 (sumT P j x + markN P (x : Int) j)))
          have HB' := Lib.hid (show Bel w (wr.setCell ⟨w.heap.size + 1, j, none⟩ (.int .i64 (sumT P j x + markN P (x : Int) j))) by (repeat (first | exact Bel.refl _ | assumption | refine Bel.drew ?_ | refine Bel.drewN ?_ _ | refine Bel.alloc ?_ _ | refine Bel.setCell ?_ (by first | omega | (simp; done) | (simp; omega) | (simp at *; omega)) _ | refine Bel.trans ?_ (by assumption))))
          have WA : IntKind.i64.wrap (sumT P j x + markN P (x : Int) j) = sumT P j x + markN P (x : Int) j := IntWalk.i64_in _ (by omega)
          clear hr0 hr1 hnx e1
          have hji : (j : Int) < 3 := by omega
          have hj0 : (0 : Int) ≤ (j : Int) := by omega
          have hix := fun W => run_index3 (markN P (x : Int)) j hjl W
          go_wp2
          go_roundw
          case rel => exact ⟨j + 1, by omega, by go_num, HB'.out, by simpa [World.setCell] using hsj, HR0'.out, HNX.out⟩
          case measure => simp [intOf]; omega
        · obtain rfl : j = 3 := by omega
          have HNX := Lib.hid (hr1.congr (f' := tot P (x + 1) 0) fun i hi => by unfold tot; rw [if_neg (by omega), if_pos hi])
          go_wp2
          go_roundw
          case rel => exact ⟨x + 1, by omega, by go_num, hbj, hsj, hr0, HNX.out⟩
          case measure => simp [intOf]; omega
    · obtain rfl : x = n := by omega
      have hr1' : Row wr (w.heap.size + 1) 3 3 (fun i => sumT P i x) := hr1.congr fun i _ => by unfold tot; rw [if_neg (by omega)]
      obtain ⟨c0, c1, c2⟩ := hr1'.three
      obtain ⟨d0, d1, d2⟩ := hr0.three
      have hz0 := hr0.fz 0; have hz1 := hr0.fz 1; have hz2 := hr0.fz 2
      have hl0 := hr0.lt
      have HQ := Lib.hid (fill3 (fun i => sumT P i x) hr0)
      have HB := Lib.hid (bel3 (fun i => sumT P i x) hb (g := w.heap.size) (Nat.le_refl _))
      clear hr0 hr1 hr1'
      go_wp2
      obtain ⟨e0, e1, e2⟩ := HQ.out.three
      exact bodyPost_ret (v := V3 fun i => sumT P i x) (by simp [results, Try.results95, go_sem, e0, e1, e2]) rfl ⟨rfl, HB.out⟩
attribute [local go_sem] run_eq3
set_option maxRecDepth 100000 in
set_option maxHeartbeats 4000000 in
theorem fromMarks_sum (lo n : Nat) (A : Option Addr) (c : Nat) (P : List Wg) (w : World) (hT : Tab lo w A (marksT P n)) (hn1 : 1 ≤ n) (hn13 : n ≤ 13) (hfew : P.length ≤ 3) (hs : (sumT P 0 n == 0 && (sumT P 1 n == 0 && sumT P 2 n == 0)) = false) :
    Calls Try.prog 53 #[.slice A n c] w fun e w' => e = .returned (.tuple #[.slice none 0 0, .int .i64 5]) ∧ Bel w w' := by
  obtain ⟨i0, hi, hz0, hz1, hz2⟩ := info_parts infoMark
  obtain ⟨q, hq⟩ : ∃ q, q = P.length := ⟨_, rfl⟩
  have hq3 : q ≤ 3 := by rw [hq]; exact hfew
  have HS := Lib.hid hs; have HQ := Lib.hid hq
  have HR := Lib.hid (fun ns (h : ns ∈ marksT P n) => row_ok h)
  have HLEN := Lib.hid (marksT_length P n)
  obtain ⟨b0, o0, ns0, A0, n0, c0, rfl, hbl0, hg0, q0, hI0, hl0, hx0⟩ := hT.at_ (k := 0) (by rw [HLEN.out]; omega)
  rw [Nat.add_zero] at q0
  obtain rfl : n0 = q := by rw [← hl0, hq]; exact (HR.out ns0 (List.mem_of_getElem? hg0)).1
  have hd : decide (1 ≤ (n : Int) ∧ (n : Int) ≤ 13) = true := by simp; omega
  have hni : (0 : Int) < (n : Int) := by omega
  clear hs hfew hq hg0 hl0 hx0
  go_enter Try.func53, Try.ntmps53
  go_wp2_with fail
  refine (areLots_any _ _).mono ?_
  rintro e w1 ⟨rfl, rfl⟩
  rw [hd]
  go_wp2_with fail
  refine (noLarge_any lo _ n c _ _ hT HLEN.out hn13 (fun ns h => by rw [(HR.out ns h).1, ← HQ.out]; exact hq3)).mono ?_
  rintro e w1 ⟨rfl, rfl⟩
  go_wp2_with fail
  refine (noNone_any lo w.heap.size n0 _ n c _ _ (hT.bel ((Bel.refl w).alloc _)) HLEN.out hn13 (by simp) hq3 (fun ns h => ⟨by rw [HQ.out]; exact (HR.out ns h).1, (HR.out ns h).2⟩)).mono ?_
  rintro e w1 ⟨rfl, hw1⟩
  subst hw1
  go_wp2
  go_loopw [7, 9, 29] (fun v _ i wr => ∃ x : Nat, x ≤ n ∧ i = .int .i64 x ∧ Bel (w.alloc (.cells #[.int .i64 (n0 : Int)] 3)) wr ∧ OwnM (w.heap.size + 1) wr v (triM P x)) (fun _ _ i _ => n - (intOf i).toNat)
  case atStart => exact ⟨0, Nat.zero_le _, rfl, Bel.refl _, World.ownsRow_nil _ _ _ _⟩
  case round =>
    obtain ⟨x, hx, rfl, hb, hO⟩ := hrel
    have hbw : Bel w wr := ((Bel.refl w).alloc _).trans hb
    have hsz := hb.size
    simp at hsz
    by_cases hlt : x < n
    · obtain ⟨b', o', ns, A1, n1, c1, hA, hbl, hg, q1', hI, hl1, hx1⟩ := hT.at_ (k := x) (by rw [HLEN.out]; exact hlt)
      obtain ⟨rfl, rfl⟩ : b0 = b' ∧ o0 = o' := by simpa using hA
      have hns := marksT_at P hlt
      rw [hg] at hns
      injection hns with hns
      subst hns
      obtain rfl : n0 = n1 := by rw [← hl1, HQ.out, markL_length]
      have q1 : wr.cell? ⟨b0, o0 + x, none⟩ = some (.slice A1 n0 c1) := by rw [hbw.use.1 _ _ hbl]; exact q1'
      have hlen := triM_length P x
      have hO1 : wr.ownsRow (w.heap.size + 1) 78 3 u7 x (cel3 (triM P x)) := by have := hO; unfold OwnM at this; rw [hlen] at this; exact this
      have hX1 := Lib.hid (show x + 1 ≤ maxLen by unfold maxLen; omega)
      have hX2 := Lib.hid (show (x + 1) * 24 ≤ 140737488355328 by omega)
      have hxi : (x : Int) < (n : Int) := by omega
      have HL1 := Lib.hid hl1
      clear hg q1' hl1 hA hx1
      go_wp2_with fail
      refine (markOf_any A1 n0 c1 _ _ (hI.bel hbw) HL1.out (by omega)).mono ?_
      rintro e w4 ⟨rfl, hb4⟩
      rw [given_mark]
      have hs4 := hb4.size
      go_wp2_with (at_builtin; go_loud (refine wpList_append_lies _ rfl (.tmp 33) (.tmp 36) 80 rfl (w.heap.size + 1) 78 i0 _ 3 24 Try.underlying80 hi hz0 hz1 hz2 rfl (by decide) u7 x (cel3 (triM P x)) (by rfl) ((ownsRow_bel hO1 hb4).alloc _) ⟨w4.heap.size, 0, none⟩ 1 1 [.int .i64 (markN P (x : Int) 0), .int .i64 (markN P (x : Int) 1), .int .i64 (markN P (x : Int) 2)] (by rfl) rfl (new3m _ _ _ _ _ _ rfl) (one3m _ _ _) (by omega) hX1.out hX2.out (by simp <;> omega) _ rfl ?_); intro g3 cap3 w3 hown3 hgr3 hat3 hlt3)
      have hB3 := grown_own (w := w.alloc (.cells #[.int .i64 (n0 : Int)] 3)) ((hb.trans hb4).alloc _) (ownsRow_bel hO1 hb4) (by simp) hgr3
      have hO3 : OwnM (w.heap.size + 1) w3 (.slice (some ⟨g3, 0, none⟩) (x + 1) cap3) (triM P (x + 1)) := by
        unfold OwnM
        rw [triM_length, triM_succ, cel3_append]
        exact hown3
      have HO3 := Lib.hid hO3
      clear hown3 hgr3 hat3 hlt3 hO hO1 hO3
      go_roundw
      case rel => exact ⟨x + 1, by omega, by go_num, hB3, HO3.out⟩
      case measure => simp [intOf]; omega
    · obtain rfl : x = n := by omega
      obtain ⟨g, cg, rfl, hM⟩ := hO.form hn1
      have hcell : ∀ w', Bel wr w' → w'.cell? ⟨w.heap.size, 0, none⟩ = some (.int .i64 (n0 : Int)) := fun w' h => by
        have := (hb.trans h).use.1 w.heap.size 0 (by simp)
        rw [this]
        simp
      have Hcell := Lib.hid hcell
      have hMb : ∀ {w'}, Bel wr w' → MarksR w' g x P := fun h => ⟨Nat.lt_of_lt_of_le hM.1 h.size, fun y hy => by
        obtain ⟨k0, k1, k2⟩ := hM.2 y hy
        exact ⟨by rw [h.use.1 _ _ hM.1]; exact k0, by rw [h.use.1 _ _ hM.1]; exact k1, by rw [h.use.1 _ _ hM.1]; exact k2⟩⟩
      have HMb := Lib.hid (fun w' (h : Bel wr w') => hMb h)
      clear hO hcell hMb
      go_wp2_with fail
      refine (sumG_any g x cg P _ hM hn13).mono ?_
      rintro e w4 ⟨rfl, hb4⟩
      obtain ⟨z0, hz0⟩ : ∃ v, v = sumT P 0 x := ⟨_, rfl⟩
      obtain ⟨z1, hz1⟩ : ∃ v, v = sumT P 1 x := ⟨_, rfl⟩
      obtain ⟨z2, hz2⟩ : ∃ v, v = sumT P 2 x := ⟨_, rfl⟩
      have hsv : (z0 == 0 && (z1 == 0 && z2 == 0)) = false := by rw [hz0, hz1, hz2]; exact HS.out
      have HV := Lib.hid (show (V3 fun i => sumT P i x) = .agg #[.int .i64 z0, .int .i64 z1, .int .i64 z2] by rw [hz0, hz1, hz2]; first | done | rfl)
      clear hz0 hz1 hz2
      rw [HV.out]
      go_wp2_with fail
      refine (blank_any _).mono ?_
      rintro e w5 ⟨rfl, hb5⟩
      have HB := Lib.hid (hbw.trans (hb4.trans hb5))
      go_wp2
      exact bodyPost_ret (v := .tuple #[.slice none 0 0, .int .i64 5]) (by simp [results, Try.results53, go_sem]) rfl ⟨rfl, HB.out⟩
end Go.Proofs.Ytmckoehkekkldaa
