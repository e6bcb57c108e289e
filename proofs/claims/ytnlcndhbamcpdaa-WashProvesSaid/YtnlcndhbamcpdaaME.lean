/- The document's Grind. -/
import Derived.Test.YtnlcndhbamcpdaaMC
import Derived.Test.YtnlcndhbamcpdaaBC
namespace Go.Proofs.Ytnlcndhbamcpdaa
open Go.RowKit

set_option maxRecDepth 100000 in
set_option maxHeartbeats 2000000 in
theorem rGrind_any (A B : Option Addr) (n c m d : Nat) (gs : List (Int × Int)) (ms : List (Int × Int × Int)) (w : World) (hR : Prs w A gs) (hS : Trs w B ms) (hn : gs.length = n) (hm : ms.length = m) (hmax : n ≤ maxLen) (hmax2 : m ≤ maxLen) :
    Calls Try.prog 78 #[.slice A n c, .slice B m d] w (GrindAns w gs ms) := by
  by_cases e1 : errV gs = 0
  · have HE1 := Lib.hid e1
    by_cases h12 : 12 < m
    · have e2 : movV ms = 3 := by unfold movV; rw [if_pos (by omega)]
      have HE2 := Lib.hid e2
      clear e1 e2
      unfold maxLen at hmax2
      go_enter Try.func78, Try.ntmps78
      go_wp2_with fail
      refine (rvalidate_any A n c gs _ hR hn hmax).mono ?_
      rintro e w1 ⟨rfl, hb1⟩
      rw [HE1.out]
      go_wp2
      go_ret2
      exact .inr (.inl ⟨HE1.out, by rw [HE2.out]; decide, ret_none HE2.out.symm, hb1⟩)
    · have hmv : movV ms = if ms.all moveOk = true then 0 else 1 := by unfold movV; rw [if_neg (by omega)]
      have HMV := Lib.hid hmv; clear hmv
      have f1 := fit_of gs e1
      have l1 := (errV_zero e1).1
      have hgood := goodF_lot e1
      have HGD := Lib.hid hgood
      have Hm := Lib.hid hm
      clear e1 hgood
      go_enter Try.func78, Try.ntmps78
      go_wp2_with fail
      refine (rvalidate_any A n c gs _ hR hn hmax).mono ?_
      rintro e w1 ⟨rfl, hb1⟩
      rw [HE1.out]
      go_wp2
      go_loopw [7, 8] (fun i _ wr => ∃ (k : Nat), k ≤ m ∧ i = .int .i64 k ∧ Bel w wr ∧ ms.all moveOk = (ms.drop k).all moveOk) (fun i _ _ => m - (intOf i).toNat)
      case atStart => exact ⟨0, Nat.zero_le _, rfl, hb1, rfl⟩
      case round =>
        clear hb1
        obtain ⟨k, hk, rfl, hb, hs⟩ := hrel
        have HS := Lib.hid hs; clear hs
        by_cases hlt : k < m
        · obtain ⟨b, o, f, t, x, rfl, hbl, hg, hc1, hc2, hc3⟩ := (hS.bel hb).at_ (k := k) (by rw [Hm.out]; exact hlt)
          have HG := Lib.hid (all_step hg)
          clear hg
          by_cases hok : moveOk (f, t, x) = true
          · obtain ⟨k1, k2, k3, k4, k5⟩ := moveOk_iff.1 hok
            have HO := Lib.hid hok; clear hok
            have wf : within f 1 20 = true := within_iff.2 ⟨by omega, by omega⟩
            have wt : within t 1 20 = true := within_iff.2 ⟨by omega, by omega⟩
            have wx : within x 1 100 = true := within_iff.2 ⟨by omega, by omega⟩
            go_wp2_with (go_at_call 53; refine (within_any _ _ _ _).mono ?_; rintro e w' ⟨rfl, rfl⟩)
            go_roundw
            case rel => exact ⟨k + 1, by omega, by go_num, hb.alloc _, by rw [HS.out, HG.out, HO.out, Bool.true_and]⟩
            case measure => simp [intOf]; omega
          · have HF : Hid (movV ms = 1) := by
              show movV ms = 1
              rw [HMV.out, HS.out, HG.out, Bool.eq_false_iff.2 hok, Bool.false_and]
              rfl
            have hF2 : movV ms ≠ 0 := by rw [HF.out]; decide
            have HF2 := Lib.hid hF2; clear hF2
            by_cases wl : f ≤ t
            · cases wf : within f 1 20 <;> cases wt : within t 1 20 <;> cases wx : within x 1 100
              all_goals
                clear hok
                go_wp2_with (go_at_call 53; refine (within_any _ _ _ _).mono ?_; rintro e w' ⟨rfl, rfl⟩)
                go_ret2
                exact .inr (.inl ⟨HE1.out, HF2.out, ret_none HF.out.symm, hb.alloc _⟩)
            · cases wf : within f 1 20 <;> cases wt : within t 1 20 <;> cases wx : within x 1 100
              case true.true.true =>
                exact absurd (moveOk_iff.2 (by have a := within_iff.1 wf; have b := within_iff.1 wt; have c := within_iff.1 wx; omega)) hok
              all_goals
                clear hok
                go_wp2_with (go_at_call 53; refine (within_any _ _ _ _).mono ?_; rintro e w' ⟨rfl, rfl⟩)
                go_ret2
                exact .inr (.inl ⟨HE1.out, HF2.out, ret_none HF.out.symm, hb.alloc _⟩)
        · obtain rfl : m = k := by omega
          have hall : ms.all moveOk = true := by
            rw [HS.out, List.drop_of_length_le (by rw [Hm.out]; omega)]
            rfl
          have HE2 : Hid (movV ms = 0) := by
            show movV ms = 0
            rw [HMV.out, if_pos hall]
          have HV := Lib.hid (fun v hv => List.all_eq_true.1 hall v hv : ∀ v ∈ ms, moveOk v = true)
          clear hall HS
          go_wp2_with fail
          refine (masses_any A n c gs _ (hR.bel hb) hn (by omega) f1).mono ?_
          rintro e w3 ⟨g, rfl, hg, hb3, hr0⟩
          have hb03 := hb.trans hb3
          have hgw : w.heap.size ≤ g := Nat.le_trans hb.size hg
          clear hb hb3 hg
          go_wp2
          go_loopw [10, 11] (fun i _ wr => ∃ (k : Nat) (G : Nat → Int), k ≤ m ∧ i = .int .i64 k ∧ Bel w wr ∧ Row wr g 21 21 G ∧ GoodF G (600 + 100 * k) ∧ grindF (massF gs) ms = grindF G (ms.drop k)) (fun i _ _ => m - (intOf i).toNat)
          case atStart => exact ⟨0, _, Nat.zero_le _, rfl, hb03, hr0, by simpa using HGD.out, rfl⟩
          case round =>
            clear hb03 hr0
            obtain ⟨k, G, hk, rfl, hb, hr1, hG, hgr⟩ := hrel
            have HGR := Lib.hid hgr; clear hgr
            by_cases hlt : k < m
            · obtain ⟨b, o, f, t, x, rfl, hbl, hgk, hc1, hc2, hc3⟩ := (hS.bel hb).at_ (k := k) (by rw [Hm.out]; exact hlt)
              have hok := HV.out _ (List.mem_of_getElem? hgk)
              obtain ⟨t1, t2, t3, t4, t5⟩ := moveOk_iff.1 hok
              obtain ⟨f, rfl⟩ := Int.eq_ofNat_of_zero_le (by omega : 0 ≤ f)
              obtain ⟨t, rfl⟩ := Int.eq_ofNat_of_zero_le (by omega : 0 ≤ t)
              have hkm : (k : Int) < (m : Int) := by omega
              have hk0 : (0 : Int) ≤ (k : Int) := by omega
              have hf21 : (f : Int) < 21 := by omega
              have hf0 : (0 : Int) ≤ (f : Int) := by omega
              have ht21 : (t : Int) < 21 := by omega
              have ht0 : (0 : Int) ≤ (t : Int) := by omega
              obtain ⟨g1, g2⟩ := hG.1 f
              obtain ⟨g3, g4⟩ := hG.1 t
              have q1 := hr1.cells f (by omega)
              have q2 := hr1.fz f
              have q3 := hr1.lt
              have q4 := hr1.cells t (by omega)
              have q5 := hr1.fz t
              have hne : f ≠ t := by omega
              have hne2 : t ≠ f := by omega
              have hg5 : G f ≤ 1800 := by omega
              have hg6 : G t ≤ 1800 := by omega
              by_cases hs : G f < x
              · have HN := Lib.hid (grindF_short (F := G) hgk (by simpa using hs))
                clear hgk hG g2 g4
                go_wp2
                go_region
                go_wp2
                go_ret2
                exact .inr (.inr (.inl ⟨HE1.out, HE2.out, by rw [HGR.out, HN.out], rfl, by (repeat (first | exact Bel.refl _ | assumption | refine Bel.drew ?_ | refine Bel.drewN ?_ _ | refine Bel.alloc ?_ _ | refine Bel.setCell ?_ (by first | omega | (simp; done) | (simp; omega) | (simp at *; omega)) _ | refine Bel.trans ?_ (by assumption)))⟩))
              · have HN := Lib.hid (grindF_step (F := G) hgk (by simpa using hs))
                have HG2 := Lib.hid (hG.step hok (by simpa using hs))
                clear hgk hG g2 g4 hok
                go_wp2
                go_region
                go_wp2
                go_region
                go_wp2
                go_region
                go_wp2
                go_roundw
                case rel =>
                  refine ⟨k + 1, stepF G f t x, by omega, by go_num, by (repeat (first | exact Bel.refl _ | assumption | refine Bel.drew ?_ | refine Bel.drewN ?_ _ | refine Bel.alloc ?_ _ | refine Bel.setCell ?_ (by first | omega | (simp; done) | (simp; omega) | (simp at *; omega)) _ | refine Bel.trans ?_ (by assumption))), ?_, ?_, by rw [HGR.out, HN.out]⟩
                  · (repeat (first | refine Row.drew ?_ | refine Row.drewN ?_ _ | refine Row.alloc ?_ _))
                    refine Row.upd1 (f := fun i => if i = f then G i - x else G i) ?_ (by omega) ?_ ?_
                    · (repeat (first | refine Row.drew ?_ | refine Row.drewN ?_ _ | refine Row.alloc ?_ _))
                      refine Row.upd1 (f := G) ?_ (by omega) ?_ ?_
                      · (repeat (first | refine Row.drew ?_ | refine Row.drewN ?_ _ | refine Row.alloc ?_ _))
                        exact hr1
                      · simp
                      · intro j hj; simp [hj]
                    · show (if (f : Int) = (t : Int) then G t - x else G t) + (if (t : Int) = (t : Int) then x else 0) = G t + x
                      rw [if_neg (by omega), if_pos rfl]
                    · intro j hj
                      show (if (f : Int) = (j : Int) then G j - x else G j) + (if (t : Int) = (j : Int) then x else 0) = if j = f then G j - x else G j
                      have e : ¬ (t : Int) = (j : Int) := by omega
                      rw [if_neg e, Int.add_zero]
                      by_cases a : j = f
                      · rw [if_pos (by omega), if_pos a]
                      · rw [if_neg (by omega), if_neg a]
                  · have e : 600 + 100 * (k : Int) + 100 = 600 + 100 * ((k + 1 : Nat) : Int) := by omega
                    rw [← e]
                    exact HG2.out
                case measure => simp [intOf]; omega
            · obtain rfl : k = m := by omega
              have ht : ms.drop k = [] := List.drop_of_length_le (by rw [Hm.out]; omega)
              rw [ht] at HGR
              clear ht
              have hgs : grindF (massF gs) ms = some G := HGR.out
              have HGS := Lib.hid hgs; clear hgs HGR
              have H0 := Lib.hid hG.2
              have HP := Lib.hid (fun i => (hG.1 i).1)
              clear hG
              go_wp2_with fail
              refine (rlot_any g 21 G _ hr1 H0.out HP.out).mono ?_
              rintro e w5 ⟨A1, n1, c1, rfl, hn1, hc1, hm1, hb5, hp⟩
              have HN1 := Lib.hid hn1; clear hn1
              have hb05 := hb.trans hb5
              clear hb5 hr1
              by_cases he : errV (lotF G) = 0
              · have HE := Lib.hid he; clear he
                go_wp2_with fail
                refine (rvalidate_any A1 n1 c1 (lotF G) _ hp HN1.out.symm (by omega)).mono ?_
                rintro e w6 ⟨rfl, hb6⟩
                rw [HE.out]
                go_wp2
                go_ret2
                exact .inr (.inr (.inr ⟨HE1.out, HE2.out, G, HGS.out, .inl ⟨HE.out, A1, n1, c1, rfl, HN1.out, hc1, hm1, hb05.trans hb6, hp.bel hb6⟩⟩))
              · have hne : (errV (lotF G) != 0) = true := by simpa using he
                go_wp2_with fail
                refine (rvalidate_any A1 n1 c1 (lotF G) _ hp HN1.out.symm (by omega)).mono ?_
                rintro e w6 ⟨rfl, hb6⟩
                go_wp2
                go_ret2
                exact .inr (.inr (.inr ⟨HE1.out, HE2.out, G, HGS.out, .inr ⟨he, rfl, hb05.trans hb6⟩⟩))
  · have hne : (errV gs != 0) = true := by simpa using e1
    go_enter Try.func78, Try.ntmps78
    go_wp2_with fail
    refine (rvalidate_any A n c gs _ hR hn hmax).mono ?_
    rintro e w1 ⟨rfl, hb1⟩
    go_wp2
    go_ret2
    exact .inl ⟨e1, rfl, hb1⟩
end Go.Proofs.Ytnlcndhbamcpdaa
