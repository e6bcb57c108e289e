/- The document's Join. -/
import Derived.Test.YtnlcndhbamcpdaaBA
namespace Go.Proofs.Ytnlcndhbamcpdaa
open Go.RowKit

set_option maxHeartbeats 1000000 in
theorem rJoin_any (A B : Option Addr) (n c m d : Nat) (gs hs : List (Int × Int)) (w : World) (hR : Prs w A gs) (hS : Prs w B hs) (hn : gs.length = n) (hm : hs.length = m) (hmax : n ≤ maxLen) (hmax2 : m ≤ maxLen) :
    Calls Try.prog 85 #[.slice A n c, .slice B m d] w (JoinAns w gs hs) := by
  by_cases e1 : errV gs = 0
  · have HE1 := Lib.hid e1
    by_cases e2 : errV hs = 0
    · have HE2 := Lib.hid e2
      have hbz : errB gs hs = 0 := by unfold errB; rw [if_pos e1, e2]
      have HBZ := Lib.hid hbz; clear hbz
      have f1 := fit_of gs e1
      have f2 := fit_of hs e2
      have l1 := (errV_zero e1).1
      have l2 := (errV_zero e2).1
      have hpos := fun i => joinF_bd e1 e2 i
      have hj0 := Lib.hid (joinF_zero f1 f2)
      have Hpos := Lib.hid hpos
      have hb1' := fun i => massF_bd i f1.mass
      have hb2' := fun i => massF_bd i f2.mass
      have HB1 := Lib.hid hb1'; have HB2 := Lib.hid hb2'
      clear e1 e2 hpos hb1' hb2'
      have Hn := Lib.hid hn; have Hm := Lib.hid hm
      go_enter Try.func85, Try.ntmps85
      go_wp2_with fail
      refine (rvalidate_any A n c gs _ hR hn hmax).mono ?_
      rintro e w1 ⟨rfl, hb1⟩
      rw [HE1.out]
      go_wp2_with fail
      refine (rvalidate_any B m d hs _ (hS.bel hb1) hm hmax2).mono ?_
      rintro e w2 ⟨rfl, hb2⟩
      rw [HE2.out]
      have hb02 := hb1.trans hb2
      go_wp2_with fail
      refine (masses_any A n c gs _ (hR.bel hb02) hn (by omega) f1).mono ?_
      rintro e w3 ⟨g, rfl, hg, hb3, hr3⟩
      have hb03 := hb02.trans hb3
      go_wp2_with fail
      refine (masses_any B m d hs _ (hS.bel hb03) hm (by omega) f2).mono ?_
      rintro e w4 ⟨g', rfl, hg', hb4, hr4⟩
      have hb04 := hb03.trans hb4
      have hlt3 := hr3.lt
      have hgg : g ≠ g' := by omega
      have hr3' := hr3.bel hb4
      have hgw : w.heap.size ≤ g := by have := hb02.size; omega
      clear hb1 hb2 hb3 hb4 hr3 hb02 hb03 hg hg' hlt3
      go_wp2
      go_loopw [10] (fun i wr => ∃ k : Nat, k ≤ 21 ∧ i = .int .i64 k ∧ Bel w wr ∧ Row wr g 21 21 (fun i => if i < k then joinF gs hs i else massF gs i) ∧ Row wr g' 21 21 (massF hs)) (fun i _ => 21 - (intOf i).toNat)
      case atStart => exact ⟨0, Nat.zero_le _, rfl, hb04, hr3'.congr fun i _ => by simp, hr4⟩
      case round =>
        clear hr3' hr4 hb04
        obtain ⟨k, hk, rfl, hb, hr1, hr2⟩ := hrel
        by_cases hlt : k < 21
        · have q1 := hr1.cells k hlt
          simp only [Nat.lt_irrefl, if_false] at q1
          have q2 := hr1.fz k
          have q3 := hr1.lt
          have q4 := hr2.cells k hlt
          have q5 := hr2.lt
          obtain ⟨v1, v2⟩ := HB1.out k
          obtain ⟨v3, v4⟩ := HB2.out k
          have hv1 : massF gs k ≤ 600 := by omega
          have hv2 : massF hs k ≤ 600 := by omega
          clear v2 v4
          have hk21 : (k : Int) < 21 := by omega
          have hk0 : (0 : Int) ≤ (k : Int) := by omega
          go_wp2
          go_region
          go_wp2
          go_roundw
          case rel =>
            refine ⟨k + 1, by omega, by go_num, by (repeat (first | exact Bel.refl _ | assumption | refine Bel.drew ?_ | refine Bel.drewN ?_ _ | refine Bel.alloc ?_ _ | refine Bel.setCell ?_ (by first | omega | (simp; done) | (simp; omega) | (simp at *; omega)) _ | refine Bel.trans ?_ (by assumption))), (hr1.upd1 (by omega) ?_ ?_).drew, (hr2.far (by simpa using Ne.symm hgg) _).drew⟩
            · rw [if_pos (by omega)]; rfl
            · intro j hj
              by_cases a : j < k
              · rw [if_pos a, if_pos (by omega)]
              · rw [if_neg a, if_neg (by omega)]
          case measure => simp [intOf]; omega
        · obtain rfl : k = 21 := by omega
          have hr5 : Row wr g 21 21 (joinF gs hs) := hr1.congr fun i hi => by simp [hi]
          clear hr1 hr2
          go_wp2_with fail
          refine (rlot_any g 21 (joinF gs hs) _ hr5 hj0.out Hpos.out).mono ?_
          rintro e w5 ⟨A1, n1, c1, rfl, hn1, hc1, hm1, hb5, hp⟩
          have HN1 := Lib.hid hn1; clear hn1
          have hb05 := hb.trans hb5
          clear hb5 hr5
          by_cases he : errV (lotF (joinF gs hs)) = 0
          · have HE := Lib.hid he; clear he
            go_wp2_with fail
            refine (rvalidate_any A1 n1 c1 (lotF (joinF gs hs)) _ hp HN1.out.symm (by omega)).mono ?_
            rintro e w6 ⟨rfl, hb6⟩
            rw [HE.out]
            go_wp2
            go_ret2
            exact .inr ⟨HBZ.out, .inl ⟨HE.out, A1, n1, c1, rfl, HN1.out, hc1, hm1, hb05.trans hb6, hp.bel hb6⟩⟩
          · have hne : (errV (lotF (joinF gs hs)) != 0) = true := by simpa using he
            go_wp2_with fail
            refine (rvalidate_any A1 n1 c1 (lotF (joinF gs hs)) _ hp HN1.out.symm (by omega)).mono ?_
            rintro e w6 ⟨rfl, hb6⟩
            go_wp2
            go_ret2
            exact .inr ⟨HBZ.out, .inr ⟨he, rfl, hb05.trans hb6⟩⟩
    · have hbz : errB gs hs = errV hs := by unfold errB; rw [if_pos e1]
      have hnz : errB gs hs ≠ 0 := by rw [hbz]; exact e2
      have HBZ := Lib.hid hbz
      have hne : (errV hs != 0) = true := by simpa using e2
      clear hbz e1
      go_enter Try.func85, Try.ntmps85
      go_wp2_with fail
      refine (rvalidate_any A n c gs _ hR hn hmax).mono ?_
      rintro e w1 ⟨rfl, hb1⟩
      rw [HE1.out]
      go_wp2_with fail
      refine (rvalidate_any B m d hs _ (hS.bel hb1) hm hmax2).mono ?_
      rintro e w2 ⟨rfl, hb2⟩
      go_wp2
      go_ret2
      exact .inl ⟨hnz, ret_none HBZ.out.symm, hb1.trans hb2⟩
  · have hbz : errB gs hs = errV gs := by unfold errB; rw [if_neg e1]
    have hnz : errB gs hs ≠ 0 := by rw [hbz]; exact e1
    have HBZ := Lib.hid hbz
    have hne : (errV gs != 0) = true := by simpa using e1
    clear hbz
    go_enter Try.func85, Try.ntmps85
    go_wp2_with fail
    refine (rvalidate_any A n c gs _ hR hn hmax).mono ?_
    rintro e w1 ⟨rfl, hb1⟩
    go_wp2
    go_ret2
    exact .inl ⟨hnz, ret_none HBZ.out.symm, hb1⟩
end Go.Proofs.Ytnlcndhbamcpdaa
