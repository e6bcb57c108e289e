/- Join. -/
import Derived.Test.YtnlcndhbamcpdaaBA
namespace Go.Proofs.Ytnlcndhbamcpdaa
open Go.RowKit

set_option maxHeartbeats 1000000 in
theorem wJoin_any (A B : Option Addr) (n c m d : Nat) (gs hs : List (Int × Int)) (w : World) (hR : Prs w A gs) (hS : Prs w B hs) (hn : gs.length = n) (hm : hs.length = m) (hmax : n ≤ maxLen) (hmax2 : m ≤ maxLen) :
    Calls Try.prog 51 #[.slice A n c, .slice B m d] w (JoinAns w gs hs) := by
  by_cases he : errB gs hs = 0
  · obtain ⟨e1, e2⟩ := errB_zero he
    have f1 := fit_of gs e1
    have f2 := fit_of hs e2
    have l1 := (errV_zero e1).1
    have l2 := (errV_zero e2).1
    have HE := Lib.hid he; clear he e1 e2
    have Hm := Lib.hid hm
    go_enter Try.func51, Try.ntmps51
    go_wp2_with fail
    refine (both_any A B n c m d gs hs _ hR hS hn hm hmax hmax2).mono ?_
    rintro e w1 ⟨rfl, hb1⟩
    rw [HE.out]
    go_wp2_with fail
    refine (bySize_any A n c gs _ (hR.bel hb1) hn (by omega) f1).mono ?_
    rintro e w2 ⟨rfl, hb2⟩
    have hb02 := hb1.trans hb2
    clear hb1 hb2
    have hz := fun ty => zeros_row w2 ty w2.heap.size rfl
    have hz0 := hz 98
    clear hz
    obtain ⟨W3, hW3⟩ : ∃ W3, W3 = (w2.alloc (.cells #[.int .i64 0, .int .i64 0, .int .i64 0, .int .i64 0, .int .i64 0, .int .i64 0, .int .i64 0, .int .i64 0, .int .i64 0, .int .i64 0, .int .i64 0, .int .i64 0, .int .i64 0, .int .i64 0, .int .i64 0, .int .i64 0, .int .i64 0, .int .i64 0, .int .i64 0, .int .i64 0, .int .i64 0] 98)) := ⟨_, rfl⟩
    rw [← hW3] at hz0
    have hbw3 : Bel w W3 := by rw [hW3]; exact hb02.alloc _
    obtain ⟨X, hX⟩ : ∃ X, X = arrL (massF gs) := ⟨_, rfl⟩
    rw [← hX]
    have hXl : X.toArray.size = 21 := by rw [hX, arr_size]
    have hone := all_oneCell_toArray (arrL_one (massF gs))
    rw [← hX] at hone
    have hth : W3.there w2.heap.size 0 X.toArray.size := by rw [hXl]; exact hz0.there
    have hinf : (Try.prog.info? 98).map (·.size) = some X.toArray.size := by rw [infoArr, hXl]
    have Hth := Lib.hid hth; have Hinf := Lib.hid hinf; have Hone := Lib.hid hone
    clear hth hinf hone hXl
    have hr0 := hz0.stored (massF gs)
    rw [← hX] at hr0
    clear hz0
    have hg := hb02.size
    have hbs : Bel w (W3.setCells w2.heap.size 0 X) := hbw3.setCells hg _ _
    rw [hW3] at Hth hr0 hbs
    have HX := Lib.hid hX; have HR0 := Lib.hid hr0; have HBS := Lib.hid hbs
    clear hX hr0 hbs hbw3 hW3 W3
    go_wp2_with (refine wpList_store_mid rfl 98 _ _ rfl w2.heap.size 0 X.toArray rfl rfl Hth.out Hinf.out Hone.out ?_)
    have hr0 := HR0.out; have hbs := HBS.out
    clear HR0 HBS Hth Hinf Hone
    generalize hw0 : (w2.alloc (.cells #[.int .i64 0, .int .i64 0, .int .i64 0, .int .i64 0, .int .i64 0, .int .i64 0, .int .i64 0, .int .i64 0, .int .i64 0, .int .i64 0, .int .i64 0, .int .i64 0, .int .i64 0, .int .i64 0, .int .i64 0, .int .i64 0, .int .i64 0, .int .i64 0, .int .i64 0, .int .i64 0, .int .i64 0] 98)).setCells w2.heap.size 0 X = w0 at *
    clear hw0 HX
    generalize w2.heap.size = g at *
    clear hb02
    go_loopw [9, 20] (fun _ i wr => ∃ k : Nat, k ≤ m ∧ i = .int .i64 k ∧ Bel w wr ∧ Row wr g 21 21 (joinF gs (hs.take k))) (fun _ i _ => m - (intOf i).toNat)
    case atStart => exact ⟨0, Nat.zero_le _, rfl, hbs, hr0.congr fun i _ => by simp [joinF, massF]⟩
    case round =>
      clear hbs hr0
      obtain ⟨k, hk, rfl, hb, hr1⟩ := hrel
      by_cases hlt : k < m
      · obtain ⟨b, o, s, x, rfl, hbl, hgk, hc1, hc2⟩ := (hS.bel hb).at_ (k := k) (by rw [Hm.out]; exact hlt)
        obtain ⟨⟨hm3, hm4⟩, hm1, hm2⟩ := f2 (s, x) (List.mem_of_getElem? hgk)
        simp only at hm1 hm2 hm3 hm4
        obtain ⟨s', rfl⟩ := Int.eq_ofNat_of_zero_le (by omega : 0 ≤ s)
        obtain ⟨v1, v2⟩ := massF_bd s' (f2.take k).mass
        obtain ⟨v3, v4⟩ := massF_bd s' f1.mass
        have hl := List.length_take_le k hs
        have hv : 0 ≤ joinF gs (hs.take k) s' ∧ joinF gs (hs.take k) s' ≤ 1200 := by unfold joinF; omega
        obtain ⟨hv1, hv2⟩ := hv
        clear v1 v2 v3 v4 hl
        have HT := Lib.hid (take_at hgk)
        have HS := Lib.hid (massF_snoc (hs.take k) s' x)
        clear hgk
        have hs21 : (s' : Int) < 21 := by omega
        have hs0 : (0 : Int) ≤ (s' : Int) := by omega
        have q1 := hr1.cells s' (by omega)
        have q2 := hr1.fz s'
        have q3 := hr1.lt
        go_wp2
        go_region
        go_wp2
        go_roundw
        case rel =>
          refine ⟨k + 1, by omega, by go_num, by (repeat (first | exact Bel.refl _ | assumption | refine Bel.drew ?_ | refine Bel.drewN ?_ _ | refine Bel.alloc ?_ _ | refine Bel.setCell ?_ (by first | omega | (simp; done) | (simp; omega) | (simp at *; omega)) _ | refine Bel.trans ?_ (by assumption))), ((hr1.upd1 (by omega) ?_ ?_).alloc _).drew⟩
          · unfold joinF; rw [HT.out, HS.out, if_pos rfl]; omega
          · intro j hj
            unfold joinF
            rw [HT.out, HS.out, if_neg (by omega), Int.add_zero]
        case measure => simp [intOf]; omega
      · obtain rfl : k = m := by omega
        have ht : hs.take k = hs := List.take_of_length_le (by rw [Hm.out]; omega)
        rw [ht] at hr1
        clear ht
        have hinf2 : (Try.prog.info? 98).map (·.size) = some (arrL (joinF gs hs)).length := by rw [infoArr, arrL_length]
        have Hinf2 := Lib.hid hinf2
        clear hinf2
        go_wp2_with (refine wpList_load_mid rfl 98 _ rfl g 0 rfl (arrL (joinF gs hs)) _ hr1.range Try.underlying98 rfl Hinf2.out ?_)
        refine (wlot_any (joinF gs hs) _).mono ?_
        rintro e w4 (⟨he, A1, n1, c1, rfl, hn1, hc1, hm1, hb4, hp⟩ | ⟨he, rfl, hb4⟩)
        · have HE2 := Lib.hid he; clear he
          have HN1 := Lib.hid hn1; clear hn1
          go_wp2
          go_ret2
          exact .inr ⟨HE.out, .inl ⟨HE2.out, A1, n1, c1, rfl, HN1.out, hc1, hm1, hb.trans hb4, hp⟩⟩
        · go_wp2
          go_ret2
          exact .inr ⟨HE.out, .inr ⟨he, rfl, hb.trans hb4⟩⟩
  · have hne : (errB gs hs != 0) = true := by simpa using he
    go_enter Try.func51, Try.ntmps51
    go_wp2_with fail
    refine (both_any A B n c m d gs hs _ hR hS hn hm hmax hmax2).mono ?_
    rintro e w1 ⟨rfl, hb1⟩
    go_wp2
    go_ret2
    exact .inl ⟨he, rfl, hb1⟩
end Go.Proofs.Ytnlcndhbamcpdaa
