/- Elements by the document. -/
import Derived.Test.YtfjegdejfccgaaaR
namespace Go.Proofs.Ytfjegdejfccgaaa
open Go.RowKit

theorem dot_take {X : List (List Int)} {ts : List Int} {n : Nat} (k : Nat) : ∀ i, i ≤ n → dotTo X (ts.take n) k i = dotTo X ts k i
  | 0, _ => rfl
  | i + 1, h => by
    simp only [dotTo]
    rw [dot_take k i (by omega), getD_take (by omega)]
set_option maxRecDepth 100000 in
set_option maxHeartbeats 2000000 in
theorem rElements_ok (A B : Option Addr) (n c m d : Nat) (X Y : List (List Int)) (T : Option Addr) (t u : Nat) (ts : List Int) (w : World) (hS : Strk w A n B m X Y) (hT : Ints w T ts) (ht : ts.length = t) (hmax : t ≤ maxLen)
    (he : errS X Y = 0) (hb : tmB X Y ts = true) :
    Calls Try.prog 54 #[.agg #[.slice A n c, .slice B m d], .slice T t u] w (Two w (inL X ts) (outL X Y ts)) := by
  have hSt := str_of he
  obtain ⟨tb, tl⟩ := tm_of hb
  have HX := Lib.hid hS.lx; have HY := Lib.hid hS.ly
  have n1 : 1 ≤ n := by rw [← HX.out]; exact hSt.x1
  have n3 : n ≤ 3 := by rw [← HX.out]; exact hSt.x3
  have m1 : 1 ≤ m := by rw [← HY.out]; exact hSt.y1
  have m3 : m ≤ 3 := by rw [← HY.out]; exact hSt.y3
  have htn : t = n + m := by rw [← ht, tl, HX.out, HY.out]
  have HF := Lib.hid (errT_ok he hb)
  have Ht := Lib.hid ht
  have Held := Lib.hid (fun w' (h : Bel (w.alloc (.cells #[.slice A n c, .slice B m d] 24)) w') => box_sl h)
  obtain ⟨E, hE⟩ : ∃ E, E = elN X := ⟨_, rfl⟩
  have HE := Lib.hid hE
  have e1 : 1 ≤ E := by rw [hE]; exact hSt.e1
  have e4 : E ≤ 4 := by rw [hE]; exact hSt.e4
  have HRX := Lib.hid (fun r (hr : r ∈ X) => show r.length = E from by rw [hE]; exact (hSt.rows r (by simp [hr])).1)
  have HRY := Lib.hid (fun r (hr : r ∈ Y) => show r.length = E from by rw [hE]; exact (hSt.rows r (by simp [hr])).1)
  have HBX := Lib.hid (fun r (hr : r ∈ X) => (hSt.rows r (by simp [hr])).2.1)
  have HBY := Lib.hid (fun r (hr : r ∈ Y) => (hSt.rows r (by simp [hr])).2.1)
  have HTB := Lib.hid tb
  have HIN := Lib.hid (show inL X ts = (List.range E).map fun k => dotTo X ts k n by unfold inL sumL; rw [HX.out, hE]; exact List.map_congr_left fun k _ => dot_take k n (Nat.le_refl _))
  have HOUT := Lib.hid (show outL X Y ts = (List.range E).map fun k => dotTo Y (ts.drop n) k m by unfold outL sumL; rw [HX.out, HY.out, hE])
  have HDX := Lib.hid (fun k i => dot_bd (X := X) (fun r hr => (hSt.rows r (by simp [hr])).2.1) tb k i)
  have HDY := Lib.hid (fun k i => dot_bd (X := Y) (ts := ts.drop n) (fun r hr => (hSt.rows r (by simp [hr])).2.1) (fun t (h : t ∈ ts.drop n) => tb t (List.mem_of_mem_drop h)) k i)
  have hmk : ∀ W : World, (Instr.makeSlice 28 (.int .i64 (E : Int)) (.int .i64 (E : Int))).run Try.prog W = .ok (.slice (some ⟨W.heap.size, 0, none⟩) E E) (W.alloc (.cells (madeCells #[.int .i64 0] E) 3)) := by
    have := fun W : World => run_make_row' (P := Try.prog) 28 3 (.int .i64 0) 8 Try.underlying28 infoInt rfl .i64 .i64 E (by omega) (by omega) W
    simpa using this
  have hC : ∀ i, i < E → (madeCells #[.int .i64 0] E)[i]? = some (.int .i64 0) := fun i hi => made_int E i hi
  generalize madeCells #[.int .i64 0] E = C at *
  have HC := Lib.hid hC
  obtain ⟨b, o, r0, A0, n0, c0, rfl, hbl, hg0, hcell0, hI0, hl0, hm0⟩ := hS.tx.at_ (k := 0) (by rw [HX.out]; omega)
  obtain rfl : n0 = E := by rw [← hl0]; exact HRX.out r0 (List.mem_of_getElem? hg0)
  rw [Nat.add_zero] at hcell0
  have HQ := Lib.hid (fun w' (h : Bel w w') => show w'.cell? ⟨b, o, none⟩ = some (.slice A0 n0 c0) from by rw [h.use.1 _ _ hbl]; exact hcell0)
  have h0 : (0 : Int) < (n : Int) := by omega
  have h0n : 0 < n := by omega
  have hE4 : (n0 : Int) ≤ 4 := by omega
  have hn3i : (n : Int) ≤ 3 := by omega
  have hm3i : (m : Int) ≤ 3 := by omega
  have HTN := Lib.hid htn
  clear hSt tb tl ht he hb hE hC hg0 hl0 hI0 hcell0 htn
  go_enter Try.func54, Try.ntmps54
  go_wp2_with fail
  refine (timed_any _ B n c m d X Y _ t u ts _ (hS.bel (by (repeat (first | exact Bel.refl _ | assumption | refine Bel.drew ?_ | refine Bel.drewN ?_ _ | refine Bel.alloc ?_ _ | refine Bel.setCell ?_ (by first | omega | (simp; done) | (simp; omega) | (simp at *; omega)) _ | refine Bel.trans ?_ (by assumption))))) (hT.bel (by (repeat (first | exact Bel.refl _ | assumption | refine Bel.drew ?_ | refine Bel.drewN ?_ _ | refine Bel.alloc ?_ _ | refine Bel.setCell ?_ (by first | omega | (simp; done) | (simp; omega) | (simp at *; omega)) _ | refine Bel.trans ?_ (by assumption))))) Ht.out hmax).mono ?_
  rintro e w1 ⟨rfl, hb1⟩
  rw [HF.out]
  obtain ⟨q0, q1⟩ := Held.out _ hb1
  have hw1 : Bel w w1 := ((Bel.refl w).alloc _).trans hb1
  have hb0 : Bel (w.alloc (.cells #[.slice (some ⟨b, o, none⟩) n c, .slice B m d] 24)) w1 := hb1
  have q2 := HQ.out _ hw1
  have hsz1 : w.heap.size + 1 ≤ w1.heap.size := by have := hb1.size; simp at this; omega
  have hbl1 : b < w1.heap.size := by have := hw1.size; omega
  clear hb1
  go_wp2
  go_region_held3 (fun w' => Bel w1 w' ∧ (w'.cell? ⟨w.heap.size, 0, none⟩ = some (.slice (some ⟨b, o, none⟩) n c) ∧ w'.cell? ⟨w.heap.size, 1, none⟩ = some (.slice B m d)) ∧ w'.cell? ⟨b, o, none⟩ = some (.slice A0 n0 c0)) (exact ⟨by (repeat (first | exact Bel.refl _ | assumption | refine Bel.drew ?_ | refine Bel.drewN ?_ _ | refine Bel.alloc ?_ _ | refine Bel.setCell ?_ (by first | omega | (simp; done) | (simp; omega) | (simp at *; omega)) _ | refine Bel.trans ?_ (by assumption))), Held.out _ (by (repeat (first | exact Bel.refl _ | assumption | refine Bel.drew ?_ | refine Bel.drewN ?_ _ | refine Bel.alloc ?_ _ | refine Bel.setCell ?_ (by first | omega | (simp; done) | (simp; omega) | (simp at *; omega)) _ | refine Bel.trans ?_ (by assumption)))), HQ.out _ (by (repeat (first | exact Bel.refl _ | assumption | refine Bel.drew ?_ | refine Bel.drewN ?_ _ | refine Bel.alloc ?_ _ | refine Bel.setCell ?_ (by first | omega | (simp; done) | (simp; omega) | (simp at *; omega)) _ | refine Bel.trans ?_ (by assumption))))⟩) (fail)
  · have R1 : Row ((w1.alloc (.cells C 3)).alloc (.cells C 3)).drew w1.heap.size n0 n0 (fun _ => 0) := ((Row.whole w1 C 3 n0 (fun _ => 0) HC.out).alloc _).drew
    have R2 : Row ((w1.alloc (.cells C 3)).alloc (.cells C 3)).drew (w1.heap.size + 1) n0 n0 (fun _ => 0) := by have := (Row.whole (w1.alloc (.cells C 3)) C 3 n0 (fun _ => 0) HC.out).drew; rw [World.size_alloc] at this; exact this
    have hbW : Bel w1 ((w1.alloc (.cells C 3)).alloc (.cells C 3)).drew := by (repeat (first | exact Bel.refl _ | assumption | refine Bel.drew ?_ | refine Bel.drewN ?_ _ | refine Bel.alloc ?_ _ | refine Bel.setCell ?_ (by first | omega | (simp; done) | (simp; omega) | (simp at *; omega)) _ | refine Bel.trans ?_ (by assumption)))
    generalize ((w1.alloc (.cells C 3)).alloc (.cells C 3)).drew = W at *
    have HTT := Lib.hid (show (t : Int) = (n : Int) + (m : Int) by have := HTN.out; omega)
    have HG1 : Hid (Row W w1.heap.size n0 n0 (fun k => dotTo X ts k (min 0 n))) := by rw [Nat.zero_min]; exact R1
    have HG2 : Hid (Row W (w1.heap.size + 1) n0 n0 (fun k => dotTo Y (ts.drop n) k (0 - n))) := by rw [Nat.zero_sub]; exact R2
    clear q0 q1 q2 R1 R2 hmk
    go_wp2
    go_loopw [10] (fun i wr => ∃ i' : Nat, i' ≤ n + m ∧ i = .int .i64 i' ∧ Bel w1 wr ∧ Row wr w1.heap.size n0 n0 (fun k => dotTo X ts k (min i' n)) ∧ Row wr (w1.heap.size + 1) n0 n0 (fun k => dotTo Y (ts.drop n) k (i' - n))) (fun i _ => n + m - (intOf i).toNat)
    case atStart => exact ⟨0, Nat.zero_le _, rfl, hbW, HG1.out, HG2.out⟩
    case round =>
      clear HG1 HG2
      obtain ⟨i', hi', rfl, hb, hr1, hr2⟩ := hrel
      have q012 := Held.out _ (hb0.trans hb)
      obtain ⟨q0, q1⟩ := q012
      have htt : (t : Int) ≤ 6 := by have := HTT.out; omega
      by_cases hlt : i' < n + m
      · have hit : (i' : Int) < (t : Int) := by have := HTT.out; omega
        obtain ⟨bt, ot, y, rfl, hbt, hgt, hct⟩ := (hT.bel hw1).at_ (k := i') (by rw [Ht.out, HTN.out]; exact hlt)
        obtain ⟨y0, y9⟩ := HTB.out y (List.mem_of_getElem? hgt)
        have HGT := Lib.hid hgt
        have HCT := Lib.hid (fun w' (h : Bel w1 w') => show w'.cell? ⟨bt, ot + i', none⟩ = some (.int .i64 y) from by rw [h.use.1 _ _ hbt]; exact hct)
        clear hgt hct
        by_cases hin : i' < n
        · have hini : (i' : Int) < (n : Int) := by omega
          obtain ⟨b4, o4, r, A4, n4, c4, hA4, hbl4, hg4, hcell4, hI4, hl4, hm4⟩ := (hS.tx.bel hw1).at_ (k := i') (by rw [HX.out]; exact hin)
          injection hA4 with hA4
          injection hA4 with e1' e2'
          subst e1' e2'
          obtain rfl : n4 = n0 := by rw [← hl4]; exact HRX.out r (List.mem_of_getElem? hg4)
          have HC4 := Lib.hid (fun w' (h : Bel w1 w') => show w'.cell? ⟨b, o + i', none⟩ = some (.slice A4 n4 c4) from by rw [h.use.1 _ _ hbl4]; exact hcell4)
          have HG4 := Lib.hid hg4
          have HL4 := Lib.hid hl4
          have HR1 : Hid (Row wr w1.heap.size n4 n4 (fun k => if k < 0 then dotTo X ts k (i' + 1) else dotTo X ts k i')) := hr1.congr (fun j _ => by rw [if_neg (by omega), Nat.min_eq_left (by omega)])
          have HR2 : Hid (Row wr (w1.heap.size + 1) n4 n4 (fun k => dotTo Y (ts.drop n) k (i' + 1 - n))) := hr2.congr (fun j _ => by rw [show i' + 1 - n = 0 by omega, show i' - n = 0 by omega])
          clear hg4 hcell4 hl4 hr1 hr2
          obtain ⟨wo, hwo⟩ : ∃ wo : World, wo = wr := ⟨_, rfl⟩
          subst hwo
          go_wp2
          go_loopw [11] (fun i wr => ∃ j : Nat, j ≤ n4 ∧ i = .int .i64 j ∧ Bel w1 wr ∧ Row wr w1.heap.size n4 n4 (fun k => if k < j then dotTo X ts k (i' + 1) else dotTo X ts k i') ∧ Row wr (w1.heap.size + 1) n4 n4 (fun k => dotTo Y (ts.drop n) k (i' + 1 - n))) (fun i _ => n4 - (intOf i).toNat)
          case atStart => exact ⟨0, Nat.zero_le _, rfl, hb, HR1.out, HR2.out⟩
          case round =>
            clear HR1 HR2 q0 q1 hb
            obtain ⟨j, hj, rfl, hb, hr1, hr2⟩ := hrel
            have q012 := Held.out _ (hb0.trans hb)
            obtain ⟨q0, q1⟩ := q012
            by_cases hjl : j < n4
            · have hjn : (j : Int) < (n4 : Int) := by omega
              obtain ⟨b3, o3, x, rfl, hb3, hg3, hc3⟩ := (hI4.bel hb).at_ (k := j) (by rw [HL4.out]; exact hjl)
              obtain ⟨x0, x9⟩ := HBX.out r (List.mem_of_getElem? HG4.out) x (List.mem_of_getElem? hg3)
              obtain ⟨p1, p2⟩ := mul9 x0 x9 y0 y9
              have HST := Lib.hid (dot_step HG4.out hg3 HGT.out)
              obtain ⟨v, hvv⟩ : ∃ v, v = dotTo X ts j i' := ⟨_, rfl⟩
              have hv := HDX.out j i'
              rw [← hvv] at hv
              obtain ⟨v1, v2⟩ := hv
              have hq3 : (i' : Int) * 9000000 ≤ 27000000 := by omega
              have hc4 := hr1.cells j hjl
              rw [if_neg (Nat.lt_irrefl j), ← hvv] at hc4
              have hfz := hr1.fz j
              have hlt1 := hr1.lt
              have HV := Lib.hid hvv
              have hcomm : y * x = x * y := Int.mul_comm _ _
              obtain ⟨P, hP⟩ : ∃ P, P = x * y := ⟨_, rfl⟩
              rw [← hP] at p1 p2
              have k1 : IntKind.i64.wrap (y * x) = P := by rw [hcomm, ← hP]; exact IntWalk.i64_in _ (by omega)
              have k2 : IntKind.i64.wrap (v + P) = v + P := IntWalk.i64_in _ (by omega)
              have HP := Lib.hid hP
              have HR2 := Lib.hid ((hr1.put hjl (v + P)).congr (f' := fun k => if k < j + 1 then dotTo X ts k (i' + 1) else dotTo X ts k i') (fun k _ => by
                by_cases h1 : k = j
                · subst h1
                  rw [if_pos (by omega), if_pos rfl, HST.out, HV.out, HP.out]
                · rw [if_neg h1]
                  by_cases h2 : k < j
                  · rw [if_pos (by omega), if_pos h2]
                  · rw [if_neg (by omega), if_neg h2]))
              have HR3 := Lib.hid (hr2.far (p := ⟨w1.heap.size, j, none⟩) (by simp) (.int .i64 (v + P)))
              have hb4 := Lib.hid (show Bel w1 (wr.setCell ⟨w1.heap.size, j, none⟩ (.int .i64 (v + P))).drew by (repeat (first | exact Bel.refl _ | assumption | refine Bel.drew ?_ | refine Bel.drewN ?_ _ | refine Bel.alloc ?_ _ | refine Bel.setCell ?_ (by first | omega | (simp; done) | (simp; omega) | (simp at *; omega)) _ | refine Bel.trans ?_ (by assumption))))
              have hct := HCT.out _ hb
              have hc9 := HC4.out _ hb
              have hbz := hb.size
              clear hg3 hvv hr1 hr2 hcomm hP
              go_wp2
              go_region
              clear k1 k2
              go_wp2
              go_roundw
              case rel => exact ⟨j + 1, by omega, by go_num, hb4.out, HR2.out.drew, HR3.out.drew⟩
              case measure => simp [intOf]; omega
            · obtain rfl : j = n4 := by omega
              have HRA := Lib.hid (hr1.congr (f' := fun k => dotTo X ts k (min (i' + 1) n)) (fun k hk => by rw [if_pos hk, Nat.min_eq_left (by omega)]))
              clear hr1
              go_wp2
              go_roundw
              case rel => exact ⟨i' + 1, by omega, by go_num, hb, HRA.out, hr2⟩
              case measure => simp [intOf]; omega
        · have hini : (n : Int) ≤ (i' : Int) := by omega
          obtain ⟨q, hqq⟩ : ∃ q, i' = n + q := ⟨i' - n, by omega⟩
          obtain ⟨b4, o4, r, A4, n4, c4, rfl, hbl4, hg4, hcell4, hI4, hl4, hm4⟩ := (hS.ty.bel hw1).at_ (k := q) (by rw [HY.out]; omega)
          obtain rfl : n4 = n0 := by rw [← hl4]; exact HRY.out r (List.mem_of_getElem? hg4)
          have HC4 := Lib.hid (fun w' (h : Bel w1 w') => show w'.cell? ⟨b4, o4 + q, none⟩ = some (.slice A4 n4 c4) from by rw [h.use.1 _ _ hbl4]; exact hcell4)
          have HG4 := Lib.hid hg4
          have HL4 := Lib.hid hl4
          have HR1 : Hid (Row wr w1.heap.size n4 n4 (fun k => dotTo X ts k (min (i' + 1) n))) := hr1.congr (fun j _ => by rw [Nat.min_eq_right (by omega), Nat.min_eq_right (by omega)])
          have HR2 : Hid (Row wr (w1.heap.size + 1) n4 n4 (fun k => if k < 0 then dotTo Y (ts.drop n) k (q + 1) else dotTo Y (ts.drop n) k q)) := hr2.congr (fun j _ => by rw [if_neg (by omega), show i' - n = q by omega])
          have HTG := Lib.hid (show (ts.drop n)[q]? = some y by rw [List.getElem?_drop, ← hqq]; exact HGT.out)
          have hqd : (i' : Int) - (n : Int) = (q : Int) := by omega
          have hqm : (q : Int) < (m : Int) := by omega
          have hqm2 : q < m := by omega
          have HQQ := Lib.hid hqq
          have kq : IntKind.i64.wrap ((i' : Int) - (n : Int)) = (q : Int) := by rw [hqd]; exact IntWalk.i64_in _ (by omega)
          clear hg4 hcell4 hl4 hr1 hr2 hqq hqd
          obtain ⟨wo, hwo⟩ : ∃ wo : World, wo = wr := ⟨_, rfl⟩
          subst hwo
          go_wp2
          go_loopw [11] (fun i wr => ∃ j : Nat, j ≤ n4 ∧ i = .int .i64 j ∧ Bel w1 wr ∧ Row wr w1.heap.size n4 n4 (fun k => dotTo X ts k (min (i' + 1) n)) ∧ Row wr (w1.heap.size + 1) n4 n4 (fun k => if k < j then dotTo Y (ts.drop n) k (q + 1) else dotTo Y (ts.drop n) k q)) (fun i _ => n4 - (intOf i).toNat)
          case atStart => exact ⟨0, Nat.zero_le _, rfl, hb, HR1.out, HR2.out⟩
          case round =>
            clear HR1 HR2 q0 q1 hb
            obtain ⟨j, hj, rfl, hb, hr1, hr2⟩ := hrel
            have q012 := Held.out _ (hb0.trans hb)
            obtain ⟨q0, q1⟩ := q012
            by_cases hjl : j < n4
            · have hjn : (j : Int) < (n4 : Int) := by omega
              obtain ⟨b3, o3, x, rfl, hb3, hg3, hc3⟩ := (hI4.bel hb).at_ (k := j) (by rw [HL4.out]; exact hjl)
              obtain ⟨x0, x9⟩ := HBY.out r (List.mem_of_getElem? HG4.out) x (List.mem_of_getElem? hg3)
              obtain ⟨p1, p2⟩ := mul9 x0 x9 y0 y9
              have HST := Lib.hid (dot_step HG4.out hg3 HTG.out)
              obtain ⟨v, hvv⟩ : ∃ v, v = dotTo Y (ts.drop n) j q := ⟨_, rfl⟩
              have hv := HDY.out j q
              rw [← hvv] at hv
              obtain ⟨v1, v2⟩ := hv
              have hq3 : (q : Int) * 9000000 ≤ 27000000 := by omega
              have hc4 := hr2.cells j hjl
              rw [if_neg (Nat.lt_irrefl j), ← hvv] at hc4
              have hfz := hr2.fz j
              have hlt1 := hr2.lt
              have HV := Lib.hid hvv
              have hcomm : y * x = x * y := Int.mul_comm _ _
              obtain ⟨P, hP⟩ : ∃ P, P = x * y := ⟨_, rfl⟩
              rw [← hP] at p1 p2
              have k1 : IntKind.i64.wrap (y * x) = P := by rw [hcomm, ← hP]; exact IntWalk.i64_in _ (by omega)
              have k2 : IntKind.i64.wrap (v + P) = v + P := IntWalk.i64_in _ (by omega)
              have HP := Lib.hid hP
              have HR2 := Lib.hid ((hr2.put hjl (v + P)).congr (f' := fun k => if k < j + 1 then dotTo Y (ts.drop n) k (q + 1) else dotTo Y (ts.drop n) k q) (fun k _ => by
                by_cases h1 : k = j
                · subst h1
                  rw [if_pos (by omega), if_pos rfl, HST.out, HV.out, HP.out]
                · rw [if_neg h1]
                  by_cases h2 : k < j
                  · rw [if_pos (by omega), if_pos h2]
                  · rw [if_neg (by omega), if_neg h2]))
              have HR3 := Lib.hid (hr1.far (p := ⟨(w1.heap.size + 1), j, none⟩) (by simp) (.int .i64 (v + P)))
              have hb4 := Lib.hid (show Bel w1 (wr.setCell ⟨(w1.heap.size + 1), j, none⟩ (.int .i64 (v + P))).drew by (repeat (first | exact Bel.refl _ | assumption | refine Bel.drew ?_ | refine Bel.drewN ?_ _ | refine Bel.alloc ?_ _ | refine Bel.setCell ?_ (by first | omega | (simp; done) | (simp; omega) | (simp at *; omega)) _ | refine Bel.trans ?_ (by assumption))))
              have hct := HCT.out _ hb
              have hc9 := HC4.out _ hb
              have hbz := hb.size
              clear hg3 hvv hr1 hr2 hcomm hP
              go_wp2
              go_region
              clear k1 k2
              go_wp2
              go_roundw
              case rel => exact ⟨j + 1, by omega, by go_num, hb4.out, HR3.out.drew, HR2.out.drew⟩
              case measure => simp [intOf]; omega
            · obtain rfl : j = n4 := by omega
              have HRA := Lib.hid (hr2.congr (f' := fun k => dotTo Y (ts.drop n) k (i' + 1 - n)) (fun k hk => by rw [if_pos hk, show i' + 1 - n = q + 1 by have := HQQ.out; omega]))
              clear hr2
              go_wp2
              go_roundw
              case rel => exact ⟨i' + 1, by omega, by go_num, hb, hr1, HRA.out⟩
              case measure => simp [intOf]; omega
      · obtain rfl : i' = n + m := by omega
        have hti : (t : Int) ≤ (n : Int) + (m : Int) := by have := HTT.out; omega
        have HI1 := Lib.hid (hr1.congr (f' := fun k => dotTo X ts k n) (fun k _ => by rw [Nat.min_eq_right (by omega)])).ints
        have HI2 := Lib.hid (hr2.congr (f' := fun k => dotTo Y (ts.drop n) k m) (fun k _ => by rw [Nat.add_sub_cancel_left])).ints
        clear hr1 hr2
        go_wp2
        go_ret3
        exact ⟨_, _, _, _, _, _, rfl, by rw [HIN.out]; simp, by rw [HOUT.out]; simp, by (repeat (first | exact Bel.refl _ | assumption | refine Bel.drew ?_ | refine Bel.drewN ?_ _ | refine Bel.alloc ?_ _ | refine Bel.setCell ?_ (by first | omega | (simp; done) | (simp; omega) | (simp at *; omega)) _ | refine Bel.trans ?_ (by assumption))), by rw [HIN.out]; exact HI1.out, by rw [HOUT.out]; exact HI2.out⟩
  · have R1 : Row ((w1.alloc (.cells C 3)).alloc (.cells C 3)).drew w1.heap.size n0 n0 (fun _ => 0) := ((Row.whole w1 C 3 n0 (fun _ => 0) HC.out).alloc _).drew
    have R2 : Row ((w1.alloc (.cells C 3)).alloc (.cells C 3)).drew (w1.heap.size + 1) n0 n0 (fun _ => 0) := by have := (Row.whole (w1.alloc (.cells C 3)) C 3 n0 (fun _ => 0) HC.out).drew; rw [World.size_alloc] at this; exact this
    have hbW : Bel w1 ((w1.alloc (.cells C 3)).alloc (.cells C 3)).drew := by (repeat (first | exact Bel.refl _ | assumption | refine Bel.drew ?_ | refine Bel.drewN ?_ _ | refine Bel.alloc ?_ _ | refine Bel.setCell ?_ (by first | omega | (simp; done) | (simp; omega) | (simp at *; omega)) _ | refine Bel.trans ?_ (by assumption)))
    generalize ((w1.alloc (.cells C 3)).alloc (.cells C 3)).drew = W at *
    have HTT := Lib.hid (show (t : Int) = (n : Int) + (m : Int) by have := HTN.out; omega)
    have HG1 : Hid (Row W (w1.heap.size + 1) n0 n0 (fun k => dotTo X ts k (min 0 n))) := by rw [Nat.zero_min]; exact R2
    have HG2 : Hid (Row W w1.heap.size n0 n0 (fun k => dotTo Y (ts.drop n) k (0 - n))) := by rw [Nat.zero_sub]; exact R1
    clear q0 q1 q2 R1 R2 hmk
    go_wp2
    go_loopw [10] (fun i wr => ∃ i' : Nat, i' ≤ n + m ∧ i = .int .i64 i' ∧ Bel w1 wr ∧ Row wr (w1.heap.size + 1) n0 n0 (fun k => dotTo X ts k (min i' n)) ∧ Row wr w1.heap.size n0 n0 (fun k => dotTo Y (ts.drop n) k (i' - n))) (fun i _ => n + m - (intOf i).toNat)
    case atStart => exact ⟨0, Nat.zero_le _, rfl, hbW, HG1.out, HG2.out⟩
    case round =>
      clear HG1 HG2
      obtain ⟨i', hi', rfl, hb, hr1, hr2⟩ := hrel
      have q012 := Held.out _ (hb0.trans hb)
      obtain ⟨q0, q1⟩ := q012
      have htt : (t : Int) ≤ 6 := by have := HTT.out; omega
      by_cases hlt : i' < n + m
      · have hit : (i' : Int) < (t : Int) := by have := HTT.out; omega
        obtain ⟨bt, ot, y, rfl, hbt, hgt, hct⟩ := (hT.bel hw1).at_ (k := i') (by rw [Ht.out, HTN.out]; exact hlt)
        obtain ⟨y0, y9⟩ := HTB.out y (List.mem_of_getElem? hgt)
        have HGT := Lib.hid hgt
        have HCT := Lib.hid (fun w' (h : Bel w1 w') => show w'.cell? ⟨bt, ot + i', none⟩ = some (.int .i64 y) from by rw [h.use.1 _ _ hbt]; exact hct)
        clear hgt hct
        by_cases hin : i' < n
        · have hini : (i' : Int) < (n : Int) := by omega
          obtain ⟨b4, o4, r, A4, n4, c4, hA4, hbl4, hg4, hcell4, hI4, hl4, hm4⟩ := (hS.tx.bel hw1).at_ (k := i') (by rw [HX.out]; exact hin)
          injection hA4 with hA4
          injection hA4 with e1' e2'
          subst e1' e2'
          obtain rfl : n4 = n0 := by rw [← hl4]; exact HRX.out r (List.mem_of_getElem? hg4)
          have HC4 := Lib.hid (fun w' (h : Bel w1 w') => show w'.cell? ⟨b, o + i', none⟩ = some (.slice A4 n4 c4) from by rw [h.use.1 _ _ hbl4]; exact hcell4)
          have HG4 := Lib.hid hg4
          have HL4 := Lib.hid hl4
          have HR1 : Hid (Row wr (w1.heap.size + 1) n4 n4 (fun k => if k < 0 then dotTo X ts k (i' + 1) else dotTo X ts k i')) := hr1.congr (fun j _ => by rw [if_neg (by omega), Nat.min_eq_left (by omega)])
          have HR2 : Hid (Row wr w1.heap.size n4 n4 (fun k => dotTo Y (ts.drop n) k (i' + 1 - n))) := hr2.congr (fun j _ => by rw [show i' + 1 - n = 0 by omega, show i' - n = 0 by omega])
          clear hg4 hcell4 hl4 hr1 hr2
          obtain ⟨wo, hwo⟩ : ∃ wo : World, wo = wr := ⟨_, rfl⟩
          subst hwo
          go_wp2
          go_loopw [11] (fun i wr => ∃ j : Nat, j ≤ n4 ∧ i = .int .i64 j ∧ Bel w1 wr ∧ Row wr (w1.heap.size + 1) n4 n4 (fun k => if k < j then dotTo X ts k (i' + 1) else dotTo X ts k i') ∧ Row wr w1.heap.size n4 n4 (fun k => dotTo Y (ts.drop n) k (i' + 1 - n))) (fun i _ => n4 - (intOf i).toNat)
          case atStart => exact ⟨0, Nat.zero_le _, rfl, hb, HR1.out, HR2.out⟩
          case round =>
            clear HR1 HR2 q0 q1 hb
            obtain ⟨j, hj, rfl, hb, hr1, hr2⟩ := hrel
            have q012 := Held.out _ (hb0.trans hb)
            obtain ⟨q0, q1⟩ := q012
            by_cases hjl : j < n4
            · have hjn : (j : Int) < (n4 : Int) := by omega
              obtain ⟨b3, o3, x, rfl, hb3, hg3, hc3⟩ := (hI4.bel hb).at_ (k := j) (by rw [HL4.out]; exact hjl)
              obtain ⟨x0, x9⟩ := HBX.out r (List.mem_of_getElem? HG4.out) x (List.mem_of_getElem? hg3)
              obtain ⟨p1, p2⟩ := mul9 x0 x9 y0 y9
              have HST := Lib.hid (dot_step HG4.out hg3 HGT.out)
              obtain ⟨v, hvv⟩ : ∃ v, v = dotTo X ts j i' := ⟨_, rfl⟩
              have hv := HDX.out j i'
              rw [← hvv] at hv
              obtain ⟨v1, v2⟩ := hv
              have hq3 : (i' : Int) * 9000000 ≤ 27000000 := by omega
              have hc4 := hr1.cells j hjl
              rw [if_neg (Nat.lt_irrefl j), ← hvv] at hc4
              have hfz := hr1.fz j
              have hlt1 := hr1.lt
              have HV := Lib.hid hvv
              have hcomm : y * x = x * y := Int.mul_comm _ _
              obtain ⟨P, hP⟩ : ∃ P, P = x * y := ⟨_, rfl⟩
              rw [← hP] at p1 p2
              have k1 : IntKind.i64.wrap (y * x) = P := by rw [hcomm, ← hP]; exact IntWalk.i64_in _ (by omega)
              have k2 : IntKind.i64.wrap (v + P) = v + P := IntWalk.i64_in _ (by omega)
              have HP := Lib.hid hP
              have HR2 := Lib.hid ((hr1.put hjl (v + P)).congr (f' := fun k => if k < j + 1 then dotTo X ts k (i' + 1) else dotTo X ts k i') (fun k _ => by
                by_cases h1 : k = j
                · subst h1
                  rw [if_pos (by omega), if_pos rfl, HST.out, HV.out, HP.out]
                · rw [if_neg h1]
                  by_cases h2 : k < j
                  · rw [if_pos (by omega), if_pos h2]
                  · rw [if_neg (by omega), if_neg h2]))
              have HR3 := Lib.hid (hr2.far (p := ⟨(w1.heap.size + 1), j, none⟩) (by simp) (.int .i64 (v + P)))
              have hb4 := Lib.hid (show Bel w1 (wr.setCell ⟨(w1.heap.size + 1), j, none⟩ (.int .i64 (v + P))).drew by (repeat (first | exact Bel.refl _ | assumption | refine Bel.drew ?_ | refine Bel.drewN ?_ _ | refine Bel.alloc ?_ _ | refine Bel.setCell ?_ (by first | omega | (simp; done) | (simp; omega) | (simp at *; omega)) _ | refine Bel.trans ?_ (by assumption))))
              have hct := HCT.out _ hb
              have hc9 := HC4.out _ hb
              have hbz := hb.size
              clear hg3 hvv hr1 hr2 hcomm hP
              go_wp2
              go_region
              clear k1 k2
              go_wp2
              go_roundw
              case rel => exact ⟨j + 1, by omega, by go_num, hb4.out, HR2.out.drew, HR3.out.drew⟩
              case measure => simp [intOf]; omega
            · obtain rfl : j = n4 := by omega
              have HRA := Lib.hid (hr1.congr (f' := fun k => dotTo X ts k (min (i' + 1) n)) (fun k hk => by rw [if_pos hk, Nat.min_eq_left (by omega)]))
              clear hr1
              go_wp2
              go_roundw
              case rel => exact ⟨i' + 1, by omega, by go_num, hb, HRA.out, hr2⟩
              case measure => simp [intOf]; omega
        · have hini : (n : Int) ≤ (i' : Int) := by omega
          obtain ⟨q, hqq⟩ : ∃ q, i' = n + q := ⟨i' - n, by omega⟩
          obtain ⟨b4, o4, r, A4, n4, c4, rfl, hbl4, hg4, hcell4, hI4, hl4, hm4⟩ := (hS.ty.bel hw1).at_ (k := q) (by rw [HY.out]; omega)
          obtain rfl : n4 = n0 := by rw [← hl4]; exact HRY.out r (List.mem_of_getElem? hg4)
          have HC4 := Lib.hid (fun w' (h : Bel w1 w') => show w'.cell? ⟨b4, o4 + q, none⟩ = some (.slice A4 n4 c4) from by rw [h.use.1 _ _ hbl4]; exact hcell4)
          have HG4 := Lib.hid hg4
          have HL4 := Lib.hid hl4
          have HR1 : Hid (Row wr (w1.heap.size + 1) n4 n4 (fun k => dotTo X ts k (min (i' + 1) n))) := hr1.congr (fun j _ => by rw [Nat.min_eq_right (by omega), Nat.min_eq_right (by omega)])
          have HR2 : Hid (Row wr w1.heap.size n4 n4 (fun k => if k < 0 then dotTo Y (ts.drop n) k (q + 1) else dotTo Y (ts.drop n) k q)) := hr2.congr (fun j _ => by rw [if_neg (by omega), show i' - n = q by omega])
          have HTG := Lib.hid (show (ts.drop n)[q]? = some y by rw [List.getElem?_drop, ← hqq]; exact HGT.out)
          have hqd : (i' : Int) - (n : Int) = (q : Int) := by omega
          have hqm : (q : Int) < (m : Int) := by omega
          have hqm2 : q < m := by omega
          have HQQ := Lib.hid hqq
          have kq : IntKind.i64.wrap ((i' : Int) - (n : Int)) = (q : Int) := by rw [hqd]; exact IntWalk.i64_in _ (by omega)
          clear hg4 hcell4 hl4 hr1 hr2 hqq hqd
          obtain ⟨wo, hwo⟩ : ∃ wo : World, wo = wr := ⟨_, rfl⟩
          subst hwo
          go_wp2
          go_loopw [11] (fun i wr => ∃ j : Nat, j ≤ n4 ∧ i = .int .i64 j ∧ Bel w1 wr ∧ Row wr (w1.heap.size + 1) n4 n4 (fun k => dotTo X ts k (min (i' + 1) n)) ∧ Row wr w1.heap.size n4 n4 (fun k => if k < j then dotTo Y (ts.drop n) k (q + 1) else dotTo Y (ts.drop n) k q)) (fun i _ => n4 - (intOf i).toNat)
          case atStart => exact ⟨0, Nat.zero_le _, rfl, hb, HR1.out, HR2.out⟩
          case round =>
            clear HR1 HR2 q0 q1 hb
            obtain ⟨j, hj, rfl, hb, hr1, hr2⟩ := hrel
            have q012 := Held.out _ (hb0.trans hb)
            obtain ⟨q0, q1⟩ := q012
            by_cases hjl : j < n4
            · have hjn : (j : Int) < (n4 : Int) := by omega
              obtain ⟨b3, o3, x, rfl, hb3, hg3, hc3⟩ := (hI4.bel hb).at_ (k := j) (by rw [HL4.out]; exact hjl)
              obtain ⟨x0, x9⟩ := HBY.out r (List.mem_of_getElem? HG4.out) x (List.mem_of_getElem? hg3)
              obtain ⟨p1, p2⟩ := mul9 x0 x9 y0 y9
              have HST := Lib.hid (dot_step HG4.out hg3 HTG.out)
              obtain ⟨v, hvv⟩ : ∃ v, v = dotTo Y (ts.drop n) j q := ⟨_, rfl⟩
              have hv := HDY.out j q
              rw [← hvv] at hv
              obtain ⟨v1, v2⟩ := hv
              have hq3 : (q : Int) * 9000000 ≤ 27000000 := by omega
              have hc4 := hr2.cells j hjl
              rw [if_neg (Nat.lt_irrefl j), ← hvv] at hc4
              have hfz := hr2.fz j
              have hlt1 := hr2.lt
              have HV := Lib.hid hvv
              have hcomm : y * x = x * y := Int.mul_comm _ _
              obtain ⟨P, hP⟩ : ∃ P, P = x * y := ⟨_, rfl⟩
              rw [← hP] at p1 p2
              have k1 : IntKind.i64.wrap (y * x) = P := by rw [hcomm, ← hP]; exact IntWalk.i64_in _ (by omega)
              have k2 : IntKind.i64.wrap (v + P) = v + P := IntWalk.i64_in _ (by omega)
              have HP := Lib.hid hP
              have HR2 := Lib.hid ((hr2.put hjl (v + P)).congr (f' := fun k => if k < j + 1 then dotTo Y (ts.drop n) k (q + 1) else dotTo Y (ts.drop n) k q) (fun k _ => by
                by_cases h1 : k = j
                · subst h1
                  rw [if_pos (by omega), if_pos rfl, HST.out, HV.out, HP.out]
                · rw [if_neg h1]
                  by_cases h2 : k < j
                  · rw [if_pos (by omega), if_pos h2]
                  · rw [if_neg (by omega), if_neg h2]))
              have HR3 := Lib.hid (hr1.far (p := ⟨w1.heap.size, j, none⟩) (by simp) (.int .i64 (v + P)))
              have hb4 := Lib.hid (show Bel w1 (wr.setCell ⟨w1.heap.size, j, none⟩ (.int .i64 (v + P))).drew by (repeat (first | exact Bel.refl _ | assumption | refine Bel.drew ?_ | refine Bel.drewN ?_ _ | refine Bel.alloc ?_ _ | refine Bel.setCell ?_ (by first | omega | (simp; done) | (simp; omega) | (simp at *; omega)) _ | refine Bel.trans ?_ (by assumption))))
              have hct := HCT.out _ hb
              have hc9 := HC4.out _ hb
              have hbz := hb.size
              clear hg3 hvv hr1 hr2 hcomm hP
              go_wp2
              go_region
              clear k1 k2
              go_wp2
              go_roundw
              case rel => exact ⟨j + 1, by omega, by go_num, hb4.out, HR3.out.drew, HR2.out.drew⟩
              case measure => simp [intOf]; omega
            · obtain rfl : j = n4 := by omega
              have HRA := Lib.hid (hr2.congr (f' := fun k => dotTo Y (ts.drop n) k (i' + 1 - n)) (fun k hk => by rw [if_pos hk, show i' + 1 - n = q + 1 by have := HQQ.out; omega]))
              clear hr2
              go_wp2
              go_roundw
              case rel => exact ⟨i' + 1, by omega, by go_num, hb, hr1, HRA.out⟩
              case measure => simp [intOf]; omega
      · obtain rfl : i' = n + m := by omega
        have hti : (t : Int) ≤ (n : Int) + (m : Int) := by have := HTT.out; omega
        have HI1 := Lib.hid (hr1.congr (f' := fun k => dotTo X ts k n) (fun k _ => by rw [Nat.min_eq_right (by omega)])).ints
        have HI2 := Lib.hid (hr2.congr (f' := fun k => dotTo Y (ts.drop n) k m) (fun k _ => by rw [Nat.add_sub_cancel_left])).ints
        clear hr1 hr2
        go_wp2
        go_ret3
        exact ⟨_, _, _, _, _, _, rfl, by rw [HIN.out]; simp, by rw [HOUT.out]; simp, by (repeat (first | exact Bel.refl _ | assumption | refine Bel.drew ?_ | refine Bel.drewN ?_ _ | refine Bel.alloc ?_ _ | refine Bel.setCell ?_ (by first | omega | (simp; done) | (simp; omega) | (simp at *; omega)) _ | refine Bel.trans ?_ (by assumption))), by rw [HIN.out]; exact HI1.out, by rw [HOUT.out]; exact HI2.out⟩
end Go.Proofs.Ytfjegdejfccgaaa
