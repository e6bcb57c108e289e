/- Grind. -/
import Derived.Test.YtmbhhooiaonhjaaMC
import Derived.Test.YtmbhhooiaonhjaaBB
namespace Go.Proofs.Ytmbhhooiaonhjaa
open Go.RowKit

set_option maxRecDepth 100000 in
set_option maxHeartbeats 2000000 in
theorem wGrind_any (A B : Option Addr) (n c m d : Nat) (gs : List (Int × Int)) (ms : List (Int × Int × Int)) (w : World) (hR : Prs w A gs) (hS : Trs w B ms) (hn : gs.length = n) (hm : ms.length = m) (hmax : n ≤ maxLen) (hmax2 : m ≤ maxLen) :
    Calls Try.prog 33 #[.slice A n c, .slice B m d] w (GrindAns w gs ms) := by
  by_cases e1 : errV gs = 0
  · have HE1 := Lib.hid e1
    by_cases e2 : movV ms = 0
    · have HE2 := Lib.hid e2
      have f1 := fit_of gs e1
      have l1 := (errV_zero e1).1
      obtain ⟨l2, hv⟩ := movV_zero e2
      have hgood := goodF_lot e1
      have Hm := Lib.hid hm; have HV := Lib.hid hv
      clear e1 e2 hv
      go_enter Try.func33, Try.ntmps33
      go_wp2_with fail
      refine (validate_any A n c gs _ hR hn hmax).mono ?_
      rintro e w1 ⟨rfl, hb1⟩
      rw [HE1.out]
      go_wp2_with fail
      refine (vmoves_any B m d ms _ (hS.bel hb1) hm hmax2).mono ?_
      rintro e w2 ⟨rfl, hb2⟩
      rw [HE2.out]
      have hb02 := hb1.trans hb2
      go_wp2_with fail
      refine (bySize_any A n c gs _ (hR.bel hb02) hn (by omega) f1).mono ?_
      rintro e w3 ⟨rfl, hb3⟩
      have hb03 := hb02.trans hb3
      clear hb1 hb2 hb3 hb02
      have hz := fun ty => zeros_row w3 ty w3.heap.size rfl
      have hz0 := hz 88
      clear hz
      obtain ⟨W3, hW3⟩ : ∃ W3, W3 = (w3.alloc (.cells #[.int .i64 0, .int .i64 0, .int .i64 0, .int .i64 0, .int .i64 0, .int .i64 0, .int .i64 0, .int .i64 0, .int .i64 0, .int .i64 0, .int .i64 0, .int .i64 0, .int .i64 0, .int .i64 0, .int .i64 0, .int .i64 0, .int .i64 0, .int .i64 0, .int .i64 0, .int .i64 0, .int .i64 0] 88)) := ⟨_, rfl⟩
      rw [← hW3] at hz0
      have hbw3 : Bel w W3 := by rw [hW3]; exact hb03.alloc _
      obtain ⟨X, hX⟩ : ∃ X, X = arrL (massF gs) := ⟨_, rfl⟩
      rw [← hX]
      have hXl : X.toArray.size = 21 := by rw [hX, arr_size]
      have hone := all_oneCell_toArray (arrL_one (massF gs))
      rw [← hX] at hone
      have hth : W3.there w3.heap.size 0 X.toArray.size := by rw [hXl]; exact hz0.there
      have hinf : (Try.prog.info? 88).map (·.size) = some X.toArray.size := by rw [infoArr, hXl]
      have Hth := Lib.hid hth; have Hinf := Lib.hid hinf; have Hone := Lib.hid hone
      clear hth hinf hone hXl
      have hr0 := hz0.stored (massF gs)
      rw [← hX] at hr0
      clear hz0
      have hg := hb03.size
      have hbs : Bel w (W3.setCells w3.heap.size 0 X) := hbw3.setCells hg _ _
      rw [hW3] at Hth hr0 hbs
      have HX := Lib.hid hX; have HR0 := Lib.hid hr0; have HBS := Lib.hid hbs
      clear hX hr0 hbs hbw3 hW3 W3
      go_wp2_with (refine wpList_store_mid rfl 88 _ _ rfl w3.heap.size 0 X.toArray rfl rfl Hth.out Hinf.out Hone.out ?_)
      have hr0 := HR0.out; have hbs := HBS.out
      clear HR0 HBS Hth Hinf Hone
      generalize hw0 : (w3.alloc (.cells #[.int .i64 0, .int .i64 0, .int .i64 0, .int .i64 0, .int .i64 0, .int .i64 0, .int .i64 0, .int .i64 0, .int .i64 0, .int .i64 0, .int .i64 0, .int .i64 0, .int .i64 0, .int .i64 0, .int .i64 0, .int .i64 0, .int .i64 0, .int .i64 0, .int .i64 0, .int .i64 0, .int .i64 0] 88)).setCells w3.heap.size 0 X = w0 at *
      clear hw0 HX
      generalize w3.heap.size = g at *
      clear hb03
      go_loopw [10, 25] (fun _ i wr => ∃ (k : Nat) (G : Nat → Int), k ≤ m ∧ i = .int .i64 k ∧ Bel w wr ∧ Row wr g 21 21 G ∧ GoodF G (600 + 100 * k) ∧ grindF (massF gs) ms = grindF G (ms.drop k)) (fun _ i _ => m - (intOf i).toNat)
      case atStart => exact ⟨0, _, Nat.zero_le _, rfl, hbs, hr0, by simpa using hgood, rfl⟩
      case round =>
        clear hbs hr0 hgood
        obtain ⟨k, G, hk, rfl, hb, hr1, hG, hgr⟩ := hrel
        have HGR := Lib.hid hgr; clear hgr
        by_cases hlt : k < m
        · obtain ⟨b, o, f, t, x, rfl, hbl, hgk, hc1, hc2, hc3⟩ := (hS.bel hb).at_ (k := k) (by rw [Hm.out]; exact hlt)
          have hok := HV.out _ (List.mem_of_getElem? hgk)
          obtain ⟨t1, t2, t3, t4, t5⟩ := moveOk_iff.1 hok
          obtain ⟨f, rfl⟩ := Int.eq_ofNat_of_zero_le (by omega : 0 ≤ f)
          obtain ⟨t, rfl⟩ := Int.eq_ofNat_of_zero_le (by omega : 0 ≤ t)
          have hkm : (k : Int) < (m : Int) := by omega
          have hk0 : (0 : Int) ≤ (k : Int) := by omega
          have hf21 : (f : Int) < 21 := by omega
          have hf0 : (0 : Int) ≤ (f : Int) := by omega
          have ht21 : (t : Int) < 21 := by omega
          have ht0 : (0 : Int) ≤ (t : Int) := by omega
          obtain ⟨g1, g2⟩ := hG.1 f
          obtain ⟨g3, g4⟩ := hG.1 t
          have q1 := hr1.cells f (by omega)
          have q2 := hr1.fz f
          have q3 := hr1.lt
          have q4 := hr1.cells t (by omega)
          have q5 := hr1.fz t
          have hne : f ≠ t := by omega
          have hne2 : t ≠ f := by omega
          have hg5 : G f ≤ 1800 := by omega
          have hg6 : G t ≤ 1800 := by omega
          by_cases hs : G f < x
          · have HN := Lib.hid (grindF_short (F := G) hgk (by simpa using hs))
            clear hgk hG g2 g4
            go_wp2
            go_region
            go_wp2
            go_ret2
            exact .inr (.inr (.inl ⟨HE1.out, HE2.out, by rw [HGR.out, HN.out], rfl, by (repeat (first | exact Bel.refl _ | assumption | refine Bel.drew ?_ | refine Bel.drewN ?_ _ | refine Bel.alloc ?_ _ | refine Bel.setCell ?_ (by first | omega | (simp; done) | (simp; omega) | (simp at *; omega)) _ | refine Bel.trans ?_ (by assumption)))⟩))
          · have HN := Lib.hid (grindF_step (F := G) hgk (by simpa using hs))
            have HG2 := Lib.hid (hG.step hok (by simpa using hs))
            clear hgk hG g2 g4 hok
            go_wp2
            go_region
            go_wp2
            go_region
            go_wp2
            go_region
            go_wp2
            go_roundw
            case rel =>
              refine ⟨k + 1, stepF G f t x, by omega, by go_num, by (repeat (first | exact Bel.refl _ | assumption | refine Bel.drew ?_ | refine Bel.drewN ?_ _ | refine Bel.alloc ?_ _ | refine Bel.setCell ?_ (by first | omega | (simp; done) | (simp; omega) | (simp at *; omega)) _ | refine Bel.trans ?_ (by assumption))), ?_, ?_, by rw [HGR.out, HN.out]⟩
              · (repeat (first | refine Row.drew ?_ | refine Row.drewN ?_ _ | refine Row.alloc ?_ _))
                refine Row.upd1 (f := fun i => if i = f then G i - x else G i) ?_ (by omega) ?_ ?_
                · (repeat (first | refine Row.drew ?_ | refine Row.drewN ?_ _ | refine Row.alloc ?_ _))
                  refine Row.upd1 (f := G) ?_ (by omega) ?_ ?_
                  · (repeat (first | refine Row.drew ?_ | refine Row.drewN ?_ _ | refine Row.alloc ?_ _))
                    exact hr1
                  · simp
                  · intro j hj; simp [hj]
                · show (if (f : Int) = (t : Int) then G t - x else G t) + (if (t : Int) = (t : Int) then x else 0) = G t + x
                  rw [if_neg (by omega), if_pos rfl]
                · intro j hj
                  show (if (f : Int) = (j : Int) then G j - x else G j) + (if (t : Int) = (j : Int) then x else 0) = if j = f then G j - x else G j
                  have e : ¬ (t : Int) = (j : Int) := by omega
                  rw [if_neg e, Int.add_zero]
                  by_cases a : j = f
                  · rw [if_pos (by omega), if_pos a]
                  · rw [if_neg (by omega), if_neg a]
              · have e : 600 + 100 * (k : Int) + 100 = 600 + 100 * ((k + 1 : Nat) : Int) := by omega
                rw [← e]
                exact HG2.out
            case measure => simp [intOf]; omega
        · obtain rfl : k = m := by omega
          have ht : ms.drop k = [] := List.drop_of_length_le (by rw [Hm.out]; omega)
          rw [ht] at HGR
          clear ht
          have hgs : grindF (massF gs) ms = some G := HGR.out
          have HGS := Lib.hid hgs; clear hgs HGR
          have hinf2 : (Try.prog.info? 88).map (·.size) = some (arrL G).length := by rw [infoArr, arrL_length]
          have Hinf2 := Lib.hid hinf2
          clear hinf2
          go_wp2_with (refine wpList_load_mid rfl 88 _ rfl g 0 rfl (arrL G) _ hr1.range Try.underlying88 rfl Hinf2.out ?_)
          refine (wlot_any G _).mono ?_
          rintro e w5 (⟨he, A1, n1, c1, rfl, hn1, hc1, hm1, hb5, hp⟩ | ⟨he, rfl, hb5⟩)
          · have HEL := Lib.hid he; clear he
            have HN1 := Lib.hid hn1; clear hn1
            go_wp2
            go_ret2
            exact .inr (.inr (.inr ⟨HE1.out, HE2.out, G, HGS.out, .inl ⟨HEL.out, A1, n1, c1, rfl, HN1.out, hc1, hm1, hb.trans hb5, hp⟩⟩))
          · go_wp2
            go_ret2
            exact .inr (.inr (.inr ⟨HE1.out, HE2.out, G, HGS.out, .inr ⟨he, rfl, hb.trans hb5⟩⟩))
    · have hne : (movV ms != 0) = true := by simpa using e2
      have HE1 := Lib.hid e1; clear e1
      go_enter Try.func33, Try.ntmps33
      go_wp2_with fail
      refine (validate_any A n c gs _ hR hn hmax).mono ?_
      rintro e w1 ⟨rfl, hb1⟩
      rw [HE1.out]
      go_wp2_with fail
      refine (vmoves_any B m d ms _ (hS.bel hb1) hm hmax2).mono ?_
      rintro e w2 ⟨rfl, hb2⟩
      go_wp2
      go_ret2
      exact .inr (.inl ⟨HE1.out, e2, rfl, hb1.trans hb2⟩)
  · have hne : (errV gs != 0) = true := by simpa using e1
    go_enter Try.func33, Try.ntmps33
    go_wp2_with fail
    refine (validate_any A n c gs _ hR hn hmax).mono ?_
    rintro e w1 ⟨rfl, hb1⟩
    go_wp2
    go_ret2
    exact .inl ⟨e1, rfl, hb1⟩
end Go.Proofs.Ytmbhhooiaonhjaa

