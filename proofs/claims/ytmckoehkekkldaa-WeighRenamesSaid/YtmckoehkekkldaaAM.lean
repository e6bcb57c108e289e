/- The program's sum of a plan's marks; the closures of FromMarks. -/
import Derived.Test.YtmckoehkekkldaaAL
import Derived.Test.YtmckoehkekkldaaAF
import Derived.Test.YtmckoehkekkldaaU
namespace Go.Proofs.Ytmckoehkekkldaa
open Go.RowKit

/-- The sum of the numbers of the lots below x. -/
def sumT (P : List Wg) (i : Nat) : Nat → Int
  | 0 => 0
  | x + 1 => sumT P i x + markN P (x : Int) i
theorem sumT_bd (P : List Wg) (i : Nat) : ∀ x : Nat, -(x : Int) ≤ sumT P i x ∧ sumT P i x ≤ (x : Int)
  | 0 => by simp [sumT]
  | x + 1 => by
    have h1 := sumT_bd P i x
    have h2 := markN_cases P (x : Int) i
    rw [sumT]
    omega
theorem sumT_zero {n : Nat} {P : List Wg} (hG : Good n P) (i : Nat) : sumT P i n = 0 := by
  by_cases h : i < P.length
  · obtain ⟨p, hp⟩ : ∃ p, P[i]? = some p := ⟨P[i], List.getElem?_eq_getElem h⟩
    have e : ∀ x, sumT P i x = sumSd p x := by
      intro x
      induction x with
      | zero => rfl
      | succ x ih => rw [sumT, sumSd, ih, markN_at hp]
    rw [e]
    exact sumSd_zero (hG.all p (List.mem_of_getElem? hp))
  · have e : ∀ x, sumT P i x = 0 := by
      intro x
      induction x with
      | zero => rfl
      | succ x ih => rw [sumT, ih, markN_out (by omega)]; rfl
    exact e n
/-- While the numbers of lot x are added: those before j are. -/
def tot (P : List Wg) (x j i : Nat) : Int := if i < j then sumT P i (x + 1) else sumT P i x
theorem run_index3 (f : Nat → Int) (i : Nat) (hi : i < 3) (w : World) : (Instr.index 78 (.agg #[.int .i64 (f 0), .int .i64 (f 1), .int .i64 (f 2)]) (.int .i64 (i : Int))).run Try.prog w = .ok (.int .i64 (f i)) w := by
  rcases (by omega : i = 0 ∨ i = 1 ∨ i = 2) with rfl | rfl | rfl <;> simp [Instr.index, asIntOf, run_underlying Try.underlying78, go_sem]
set_option maxRecDepth 100000 in
set_option maxHeartbeats 4000000 in
theorem sum_any (g n c : Nat) (P : List Wg) (w : World) (hM : MarksR w g n P) (hG : Good n P) :
    Calls Try.prog 95 #[.slice (some ⟨g, 0, none⟩) n c] w fun e w' => e = .returned (V3 fun _ => 0) ∧ Bel w w' := by
  have hn13 := hG.le
  have HZ := Lib.hid (fun i => sumT_zero hG i)
  have HBD := Lib.hid (fun i x => sumT_bd P i x)
  have hb0 : Bel w ((w.alloc (.cells #[.int .i64 0, .int .i64 0, .int .i64 0] 78)).alloc (.cells #[.int .i64 0, .int .i64 0, .int .i64 0] 78)) := by (repeat (first | exact Bel.refl _ | assumption | refine Bel.drew ?_ | refine Bel.drewN ?_ _ | refine Bel.alloc ?_ _ | refine Bel.setCell ?_ (by first | omega | (simp; done) | (simp; omega) | (simp at *; omega)) _ | refine Bel.trans ?_ (by assumption)))
  have r0 : Row ((w.alloc (.cells #[.int .i64 0, .int .i64 0, .int .i64 0] 78)).alloc (.cells #[.int .i64 0, .int .i64 0, .int .i64 0] 78)) w.heap.size 3 3 (fun _ => 0) := (row3 w (fun _ => 0) 78).alloc _
  have r1 : Row ((w.alloc (.cells #[.int .i64 0, .int .i64 0, .int .i64 0] 78)).alloc (.cells #[.int .i64 0, .int .i64 0, .int .i64 0] 78)) (w.heap.size + 1) 3 3 (tot P 0 0) := by
    have := row3 (w.alloc (.cells #[.int .i64 0, .int .i64 0, .int .i64 0] 78)) (fun _ => 0) 78
    rw [World.size_alloc] at this
    exact this.congr fun i _ => by unfold tot; rw [if_neg (by omega)]; rfl
  have HB0 := Lib.hid hb0; have R0 := Lib.hid r0; have R1 := Lib.hid r1
  clear hb0 r0 r1
  go_enter Try.func95, Try.ntmps95
  go_wp2
  go_loopw [5, 6, 7, 10] (fun _ _ _ i wr => ∃ x : Nat, x ≤ n ∧ i = .int .i64 x ∧ Bel w wr ∧ w.heap.size + 2 ≤ wr.heap.size ∧ Row wr w.heap.size 3 3 (fun _ => 0) ∧ Row wr (w.heap.size + 1) 3 3 (tot P x 0)) (fun _ _ _ i _ => n - (intOf i).toNat)
  case atStart => exact ⟨0, Nat.zero_le _, rfl, HB0.out, by simp, R0.out, R1.out⟩
  case round =>
    obtain ⟨x, hx, rfl, hb, hsz, hr0, hr1⟩ := hrel
    by_cases hlt : x < n
    · obtain ⟨hgl, hmm⟩ := hM
      obtain ⟨m0, m1, m2⟩ := hmm x hlt
      have c0 : wr.cell? ⟨g, x * 3, none⟩ = _ := (hb.use.1 _ _ hgl).trans m0
      have c1 : wr.cell? ⟨g, x * 3 + 1, none⟩ = _ := (hb.use.1 _ _ hgl).trans m1
      have c2 : wr.cell? ⟨g, x * 3 + 2, none⟩ = _ := (hb.use.1 _ _ hgl).trans m2
      obtain ⟨wo, hwo⟩ : ∃ wo : World, wo = wr := ⟨_, rfl⟩
      subst hwo
      have hxi : (x : Int) < (n : Int) := by omega
      have HR0 := Lib.hid hr0; have HR1 := Lib.hid hr1
      have HMC := Lib.hid (fun i => markN_cases P (x : Int) i)
      clear m0 m1 m2 hr0 hr1
      go_wp2
      go_loopw [6, 7, 15] (fun _ _ i wr => ∃ j : Nat, j ≤ 3 ∧ i = .int .i64 j ∧ Bel w wr ∧ w.heap.size + 2 ≤ wr.heap.size ∧ Row wr w.heap.size 3 3 (fun _ => 0) ∧ Row wr (w.heap.size + 1) 3 3 (tot P x j)) (fun _ _ i _ => 3 - (intOf i).toNat)
      case atStart => exact ⟨0, by omega, rfl, by (repeat (first | exact Bel.refl _ | assumption | refine Bel.drew ?_ | refine Bel.drewN ?_ _ | refine Bel.alloc ?_ _ | refine Bel.setCell ?_ (by first | omega | (simp; done) | (simp; omega) | (simp at *; omega)) _ | refine Bel.trans ?_ (by assumption))), by simp; omega, HR0.out.alloc _, HR1.out.alloc _⟩
      case round =>
        obtain ⟨j, hj, rfl, hbj, hsj, hr0, hr1⟩ := hrel
        by_cases hjl : j < 3
        · have hc := hr1.cells j hjl
          have e1 : tot P x j j = sumT P j x := by unfold tot; rw [if_neg (by omega)]
          rw [e1] at hc
          have hfz := hr1.fz j
          have hl1 := hr1.lt
          have hbd := HBD.out j x
          have hbd2 := HMC.out j
          have hnx : Row (wr.setCell ⟨w.heap.size + 1, j, none⟩ (.int .i64 (sumT P j x + markN P (x : Int) j))) (w.heap.size + 1) 3 3 (tot P x (j + 1)) := (hr1.put hjl _).congr fun i _ => by
            by_cases e : i = j
            · subst e
              unfold tot
              rw [if_pos (by omega), if_pos rfl]
              rfl
            · rw [if_neg e]
              unfold tot
              by_cases e2 : i < j
              · rw [if_pos (by omega), if_pos e2]
              · rw [if_neg (by omega), if_neg e2]
          have HNX := Lib.hid hnx
          have HR0' := Lib.hid (hr0.far (p := ⟨w.heap.size + 1, j, none⟩) (by simp) (.int .i64 (sumT P j x + markN P (x : Int) j)))
          have HB' := Lib.hid (show Bel w (wr.setCell ⟨w.heap.size + 1, j, none⟩ (.int .i64 (sumT P j x + markN P (x : Int) j))) by (repeat (first | exact Bel.refl _ | assumption | refine Bel.drew ?_ | refine Bel.drewN ?_ _ | refine Bel.alloc ?_ _ | refine Bel.setCell ?_ (by first | omega | (simp; done) | (simp; omega) | (simp at *; omega)) _ | refine Bel.trans ?_ (by assumption))))
          have WA : IntKind.i64.wrap (sumT P j x + markN P (x : Int) j) = sumT P j x + markN P (x : Int) j := IntWalk.i64_in _ (by omega)
          clear hr0 hr1 hnx e1
          have hji : (j : Int) < 3 := by omega
          have hj0 : (0 : Int) ≤ (j : Int) := by omega
          have hix := fun W => run_index3 (markN P (x : Int)) j hjl W
          go_wp2
          go_roundw
          case rel => exact ⟨j + 1, by omega, by go_num, HB'.out, by simpa [World.setCell] using hsj, HR0'.out, HNX.out⟩
          case measure => simp [intOf]; omega
        · obtain rfl : j = 3 := by omega
          have HNX := Lib.hid (hr1.congr (f' := tot P (x + 1) 0) fun i hi => by unfold tot; rw [if_neg (by omega), if_pos hi])
          go_wp2
          go_roundw
          case rel => exact ⟨x + 1, by omega, by go_num, hbj, hsj, hr0, HNX.out⟩
          case measure => simp [intOf]; omega
    · obtain rfl : x = n := by omega
      have hr1' : Row wr (w.heap.size + 1) 3 3 (fun _ => 0) := hr1.congr fun i _ => by unfold tot; rw [if_neg (by omega), HZ.out i]
      obtain ⟨c0, c1, c2⟩ := hr1'.three
      obtain ⟨d0, d1, d2⟩ := hr0.three
      have hz0 := hr0.fz 0; have hz1 := hr0.fz 1; have hz2 := hr0.fz 2
      have hl0 := hr0.lt
      have HQ := Lib.hid (fill3 (fun _ => 0) hr0)
      have HB := Lib.hid (bel3 (fun _ => 0) hb (g := w.heap.size) (Nat.le_refl _))
      clear hr0 hr1 hr1'
      go_wp2
      obtain ⟨e0, e1, e2⟩ := HQ.out.three
      exact bodyPost_ret (v := V3 fun _ => 0) (by simp [results, Try.results95, go_sem, e0, e1, e2]) rfl ⟨rfl, HB.out⟩
theorem isLarge_any (A : Option Addr) (n c : Nat) (w : World) (h : n ≤ 3) : Calls Try.prog 92 #[.slice A n c] w fun e w' => e = .returned (.bool false) ∧ w = w' := by
  go_enter Try.func92, Try.ntmps92
  go_wp2_with fail
  refine (areWeighings_any _ _).mono ?_
  rintro e w1 ⟨rfl, rfl⟩
  rw [decide_eq_true (by omega)]
  go_wp2
  go_ret
  exact ⟨rfl, rfl⟩
set_option maxRecDepth 100000 in
theorem isNone_any (b : Nat) (A : Option Addr) (n c : Nat) (l : List Int) (w : World) (hc : w.cell? ⟨b, 0, none⟩ = some (.int .i64 (n : Int))) (hI : Ints w A l) (hn : l.length = n) (h3 : n ≤ 3) (hs : sidesB l = true) :
    Calls Try.prog 94 #[.slice A n c, .pointer (some ⟨b, 0, none⟩)] w fun e w' => e = .returned (.bool false) ∧ w = w' := by
  have HS := Lib.hid hs; have Hn := Lib.hid hn
  clear hn hs
  go_enter Try.func94, Try.ntmps94
  go_wp2_with fail
  refine (areSides_any A n c l _ hI Hn.out (by unfold maxLen; omega)).mono ?_
  rintro e w1 ⟨rfl, rfl⟩
  rw [HS.out]
  go_wp2
  go_ret
  exact ⟨rfl, rfl⟩
set_option maxRecDepth 100000 in
set_option maxHeartbeats 1000000 in
theorem noLarge_any (lo : Nat) (A : Option Addr) (n c : Nat) (T : List (List Int)) (w : World) (hT : Tab lo w A T) (hn : T.length = n) (h13 : n ≤ 13) (hr : ∀ ns ∈ T, ns.length ≤ 3) :
    Calls Try.prog 93 #[.slice A n c, .func (Fn.func 92) #[] #[]] w fun e w' => e = .returned (.bool false) ∧ w = w' := by
  have Hn := Lib.hid hn; have HR := Lib.hid hr
  clear hn hr
  have key : Calls Try.prog 114 #[.slice A n c, .func (Fn.func 92) #[] #[]] w fun e w' => e = .returned (.int .i64 (-1)) ∧ w = w' := by
    go_enter Try.func114, Try.ntmps114
    go_wp2
    go_loop [8] (fun i => ∃ k : Nat, k ≤ n ∧ i = .int .i64 k) (fun i => n - (intOf i).toNat)
    case atStart => exact ⟨0, Nat.zero_le _, rfl⟩
    case round =>
      obtain ⟨k, hk, rfl⟩ := hrel
      by_cases hlt : k < n
      · have hki : (k : Int) < (n : Int) := by omega
        obtain ⟨b', o, ns, A1, n1, c1, rfl, hbl, hg, q1, hI, hl1, hx1⟩ := hT.at_ (k := k) (by rw [Hn.out]; exact hlt)
        have h3 : n1 ≤ 3 := by rw [← hl1]; exact HR.out ns (List.mem_of_getElem? hg)
        clear hg hl1 hx1
        go_wp2_with fail
        refine (isLarge_any A1 n1 c1 _ h3).mono ?_
        rintro e w1 ⟨rfl, rfl⟩
        go_wp2
        go_round
        case rel => exact ⟨k + 1, by omega, by go_num⟩
        case measure => simp [intOf]; omega
      · obtain rfl : k = n := by omega
        go_wp2
        go_ret
        exact ⟨rfl, rfl⟩
  go_enter Try.func93, Try.ntmps93
  go_wp2_with fail
  refine key.mono ?_
  rintro e w1 ⟨rfl, rfl⟩
  go_wp2
  go_ret
  exact ⟨rfl, rfl⟩
set_option maxRecDepth 100000 in
set_option maxHeartbeats 1000000 in
theorem noNone_any (lo b q : Nat) (A : Option Addr) (n c : Nat) (T : List (List Int)) (w : World) (hT : Tab lo w A T) (hn : T.length = n) (h13 : n ≤ 13) (hcell : w.cell? ⟨b, 0, none⟩ = some (.int .i64 (q : Int))) (h3 : q ≤ 3) (hr : ∀ ns ∈ T, ns.length = q ∧ sidesB ns = true) :
    Calls Try.prog 93 #[.slice A n c, .func (Fn.func 94) #[] #[.pointer (some ⟨b, 0, none⟩)]] w fun e w' => e = .returned (.bool false) ∧ w = w' := by
  have Hn := Lib.hid hn; have HR := Lib.hid hr
  clear hn hr
  have key : Calls Try.prog 114 #[.slice A n c, .func (Fn.func 94) #[] #[.pointer (some ⟨b, 0, none⟩)]] w fun e w' => e = .returned (.int .i64 (-1)) ∧ w = w' := by
    go_enter Try.func114, Try.ntmps114
    go_wp2
    go_loop [8] (fun i => ∃ k : Nat, k ≤ n ∧ i = .int .i64 k) (fun i => n - (intOf i).toNat)
    case atStart => exact ⟨0, Nat.zero_le _, rfl⟩
    case round =>
      obtain ⟨k, hk, rfl⟩ := hrel
      by_cases hlt : k < n
      · have hki : (k : Int) < (n : Int) := by omega
        obtain ⟨b', o, ns, A1, n1, c1, rfl, hbl, hg, q1, hI, hl1, hx1⟩ := hT.at_ (k := k) (by rw [Hn.out]; exact hlt)
        obtain ⟨hq, hs⟩ := HR.out ns (List.mem_of_getElem? hg)
        obtain rfl : n1 = q := by omega
        have HL := Lib.hid hl1; have HS := Lib.hid hs
        clear hg hl1 hx1 hq hs
        go_wp2_with fail
        refine (isNone_any b A1 n1 c1 ns _ hcell hI HL.out h3 HS.out).mono ?_
        rintro e w1 ⟨rfl, rfl⟩
        go_wp2
        go_round
        case rel => exact ⟨k + 1, by omega, by go_num⟩
        case measure => simp [intOf]; omega
      · obtain rfl : k = n := by omega
        go_wp2
        go_ret
        exact ⟨rfl, rfl⟩
  go_enter Try.func93, Try.ntmps93
  go_wp2_with fail
  refine key.mono ?_
  rintro e w1 ⟨rfl, rfl⟩
  go_wp2
  go_ret
  exact ⟨rfl, rfl⟩
end Go.Proofs.Ytmckoehkekkldaa
