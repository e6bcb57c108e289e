/- Merge by the document, walked. -/
import Derived.Test.YtcndmfkbfimllaaBH
namespace Go.Proofs.Ytcndmfkbfimllaa
open Go.RowKit Go.Maps

theorem ints_cell {w : World} {b o : Nat} {ns : List Int} {j : Nat} {v : Int} (h : Ints w (some ⟨b, o, none⟩) ns) (hj : ns[j]? = some v) : w.cell? ⟨b, o + j, none⟩ = some (.int .i64 v) ∧ b < w.heap.size := by
  rcases h with rfl | ⟨b', o', e, hl, hc⟩
  · simp at hj
  · injection e with e
    injection e with e1 e2 e3
    subst e1 e2
    exact ⟨hc j v hj, hl⟩
theorem upN_get {l : List Nat} {k x : Nat} (h : l[k]? = some x) : (upN l)[k]? = some (x : Int) := by
  unfold upN
  rw [List.getElem?_map, h]
  rfl
set_option maxRecDepth 100000 in
set_option maxHeartbeats 4000000 in
theorem rMerge_ok (p : Nat) (A : Option Addr) (n c : Nat) (G : List (Nat × Nat)) (k : Nat) (f : Nat × Nat) (w : World) (hR : Prs w A (up G)) (hn : G.length = n) (h60 : n ≤ 900) (hS : Shop p G) (hk : k < n) (hf : G[k]? = some f) :
    Calls Try.prog 73 #[.agg #[.int .i64 (p : Int), .slice A n c], .int .i64 (k : Int)] w (ShopRes w ((p : Int) - 1) (up (wrTo (G.map (mgF f)) true (p - 1) (p - 1)))) := by
  obtain ⟨i0, hi, hz0, hz1, hz2⟩ := info_parts info2F
  obtain ⟨f1, f2⟩ := f
  have HE := Lib.hid (errK_ok (k := (k : Int)) hS.err (by rw [up_length, hn]; omega))
  have Hn := Lib.hid hn
  have Hu := Lib.hid (show (up G).length = n by rw [up_length]; exact hn)
  have p7 := hS.p7
  have p1 : 1 ≤ p := hS.p1
  have hok := hS.ok (f1, f2) (List.mem_of_getElem? hf)
  have HLT0 := Lib.hid (show f1 < f2 by have := hok; simp only at this; omega)
  have HGl := Lib.hid (show ∀ e ∈ G, e.1 < e.2 from fun e he => by have := hS.ok e he; omega)
  clear hok
  have hpi : (p : Int) ≤ 7 := by omega
  have hpi1 : 1 ≤ (p : Int) := by omega
  have hki : (k : Int) < (n : Int) := by omega
  have hk0 : (0 : Int) ≤ (k : Int) := by omega
  have hni : (n : Int) ≤ 900 := by omega
  have Held := Lib.hid (fun w' (h : Bel (w.alloc (.cells #[.int .i64 (p : Int), .slice A n c] 24)) w') => pair_box h)
  obtain ⟨bk, ok, x0, y0, hAk, hblk, hgk, hck1, hck2⟩ := up_at hR (k := k) (by omega)
  rw [hf] at hgk
  injection hgk with hgk
  injection hgk with e1 e2
  subst e1 e2
  subst hAk
  have HEk := Lib.hid (fun w' (h : Bel w w') => show w'.cell? ⟨bk, ok + k * 2, none⟩ = some (.int .i64 (f1 : Int)) ∧ w'.cell? ⟨bk, ok + k * 2 + 1, none⟩ = some (.int .i64 (f2 : Int)) from ⟨by rw [h.use.1 _ _ hblk]; exact hck1, by rw [h.use.1 _ _ hblk]; exact hck2⟩)
  clear hn hS hf hck1 hck2
  go_enter Try.func73, Try.ntmps73
  go_wp2_with fail
  refine (numbered_any p _ n c (up G) k _ (hR.bel (by (repeat (first | exact Bel.refl _ | assumption | refine Bel.drew ?_ | refine Bel.drewN ?_ _ | refine Bel.alloc ?_ _ | refine Bel.setCell ?_ (by first | omega | (simp; done) | (simp; omega) | (simp at *; omega)) _ | refine Bel.trans ?_ (by assumption))))) Hu.out h60).mono ?_
  rintro e w1 ⟨rfl, hb1⟩
  rw [HE.out]
  have hb01 : Bel (w.alloc (.cells #[.int .i64 (p : Int), .slice (some ⟨bk, ok, none⟩) n c] 24)) w1 := ((Bel.refl _).alloc _).trans hb1
  obtain ⟨c0, c1⟩ := Held.out _ hb01
  have hsz1 : w.heap.size < w1.heap.size := by have := hb1.size; simp at this; omega
  have hsz2 : w.heap.size + 1 < w1.heap.size := by have := hb1.size; simp at this; omega
  have hres := Lib.hid (fun w' (h : Bel w1 w') => show (w'.cell? ⟨w.heap.size + 1, 0, none⟩ = some (.int .i64 0) ∧ w'.cell? ⟨w.heap.size + 1, 1, none⟩ = some (.slice none 0 0)) ∧ ∀ o, w'.frozen? ⟨w.heap.size + 1, o, none⟩ = false from by
    have h2 := hb1.trans h
    refine ⟨⟨?_, ?_⟩, fun o => ?_⟩
    · rw [h2.use.1 _ _ (by simp)]; go_simp
    · rw [h2.use.1 _ _ (by simp)]; go_simp
    · rw [h2.use.2.1 _ _ (by simp)]; go_simp)
  have hbw1 : Bel w w1 := ((Bel.refl w).alloc _).trans hb01
  obtain ⟨e1, e2⟩ := HEk.out _ hbw1
  obtain ⟨w2, hw2⟩ : ∃ w2, w2 = w1.alloc (.cells #[.int .i64 (f1 : Int), .int .i64 (f2 : Int)] 45) := ⟨_, rfl⟩
  have hs2 : w2.heap.size = w1.heap.size + 1 := by rw [hw2]; simp
  have hb12 : Bel w1 w2 := by rw [hw2]; (repeat (first | exact Bel.refl _ | assumption | refine Bel.drew ?_ | refine Bel.drewN ?_ _ | refine Bel.alloc ?_ _ | refine Bel.setCell ?_ (by first | omega | (simp; done) | (simp; omega) | (simp at *; omega)) _ | refine Bel.trans ?_ (by assumption)))
  have HFB := Lib.hid (fun w' (h : Bel w2 w') => show w'.cell? ⟨w1.heap.size, 0, none⟩ = some (.int .i64 (f1 : Int)) ∧ w'.cell? ⟨w1.heap.size, 1, none⟩ = some (.int .i64 (f2 : Int)) from pair_boxI (by rw [← hw2]; exact h))
  have hO0 : Outs w2 (w2.alloc (.cells #[.int .i64 ((p : Int) - 1), .slice none 0 0] 24)) (w1.heap.size + 1) ((p : Int) - 1) (up (wrTo (G.map (mgF (f1, f2))) true (p - 1) 0)) := by
    rw [← hs2]
    exact ⟨(Bel.refl w2).alloc _, ⟨.slice none 0 0, by go_simp, Own2.nil _ _ _⟩, by go_simp, fun o => by go_simp, by simp, Nat.le_refl _⟩
  have HB2 := Lib.hid (hbw1.trans hb12)
  have HB12 := Lib.hid hb12
  have HB02 := Lib.hid (hb01.trans hb12)
  have HW2 := Lib.hid hw2
  have HS2 := Lib.hid hs2
  clear hw2 hs2 hb12
  go_wp2
  clear hb1 c0 c1 e1 e2
  rw [← HW2.out]
  go_loopw [9] (fun i wr => ∃ a : Nat, a ≤ p - 1 ∧ i = .int .i64 a ∧ Outs w2 wr (w1.heap.size + 1) ((p : Int) - 1) (up (wrTo (G.map (mgF (f1, f2))) true (p - 1) a))) (fun i _ => p - 1 - (intOf i).toNat)
  case atStart => exact ⟨0, Nat.zero_le _, rfl, hO0⟩
  case round =>
    clear hO0
    obtain ⟨a, ha, rfl, hO⟩ := hrel
    have k0 := hO.c0
    by_cases hlt : a < p - 1
    · have hap : (a : Int) < (p : Int) - 1 := by omega
      have hO1 : Outs w2 wr (w1.heap.size + 1) ((p : Int) - 1) (up (wrTo (G.map (mgF (f1, f2))) true (p - 1) a ++ wrRow (G.map (mgF (f1, f2))) true a (a + 1))) := by rw [wrRow_start, List.append_nil]; exact hO
      go_wp2
      clear k0
      go_loopw [10] (fun i wr => ∃ m : Nat, a + 1 ≤ m ∧ m ≤ p - 1 ∧ i = .int .i64 m ∧ Outs w2 wr (w1.heap.size + 1) ((p : Int) - 1) (up (wrTo (G.map (mgF (f1, f2))) true (p - 1) a ++ wrRow (G.map (mgF (f1, f2))) true a m))) (fun i _ => p - 1 - (intOf i).toNat)
      case atStart => exact ⟨a + 1, Nat.le_refl _, by omega, by go_num, hO1⟩
      case round =>
        clear hO hO1
        obtain ⟨m, hm1, hm2, rfl, hO⟩ := hrel
        have k0 := hO.c0
        by_cases hlm : m < p - 1
        · have hmp : (m : Int) < (p : Int) - 1 := by omega
          obtain ⟨f0, f3⟩ := HFB.out _ hO.bel
          have HO := Lib.hid hO
          have hszr := hO.lt
          have HS := Lib.hid (fun w' (h : Bel wr w') => HFB.out w' (hO.bel.trans h))
          have HX := Lib.hid (oldL_len f1 f2 a)
          have HY := Lib.hid (oldL_len f1 f2 m)
          obtain ⟨X, hX⟩ : ∃ X, X = oldL f1 f2 a := ⟨_, rfl⟩
          obtain ⟨Y, hY⟩ : ∃ Y, Y = oldL f1 f2 m := ⟨_, rfl⟩
          have HH := Lib.hid (show hasG (G.map (mgF (f1, f2))) a m = X.any fun x => Y.any fun y => hasG G x y by rw [← old_has HLT0.out HGl.out (by omega), hX, hY]; rfl)
          have HXX := Lib.hid hX; have HYY := Lib.hid hY
          have HXl := Lib.hid (show X.length ≤ 2 by rw [hX]; exact HX.out)
          have HYl := Lib.hid (show Y.length ≤ 2 by rw [hY]; exact HY.out)
          obtain ⟨wo, hwo⟩ : ∃ wo : World, wo = wr := ⟨_, rfl⟩
          subst hwo
          have HBO := Lib.hid (HB02.out.trans hO.bel)
          have HBW := Lib.hid (HB2.out.trans hO.bel)
          clear hX hY hO
          go_wp2
          go_region_held3 (fun w' => Bel wo w' ∧ w'.cell? ⟨w1.heap.size, 0, none⟩ = some (.int .i64 (f1 : Int)) ∧ w'.cell? ⟨w1.heap.size, 1, none⟩ = some (.int .i64 (f2 : Int))) (exact ⟨by (repeat (first | exact Bel.refl _ | assumption | refine Bel.drew ?_ | refine Bel.drewN ?_ _ | refine Bel.alloc ?_ _ | refine Bel.setCell ?_ (by first | omega | (simp; done) | (simp; omega) | (simp at *; omega)) _ | refine Bel.trans ?_ (by assumption))), HS.out _ (by (repeat (first | exact Bel.refl _ | assumption | refine Bel.drew ?_ | refine Bel.drewN ?_ _ | refine Bel.alloc ?_ _ | refine Bel.setCell ?_ (by first | omega | (simp; done) | (simp; omega) | (simp at *; omega)) _ | refine Bel.trans ?_ (by assumption))))⟩)
            (first | (go_at_call_of 108 (Value.int .i64 (a : Int)); refine (old_any a f1 f2 _ (by omega)).mono ?_; rw [← HXX.out]; rintro e w4 ⟨A4, n4, c4, rfl, hn4, hb4, hI4⟩; have HN4 := Lib.hid hn4; clear hn4) | (go_at_call_of 108 (Value.int .i64 (m : Int)); refine (old_any m f1 f2 _ (by omega)).mono ?_; rw [← HYY.out]; rintro e w5 ⟨A5, n5, c5, rfl, hn5, hb5, hI5⟩; have HN5 := Lib.hid hn5; clear hn5))
          all_goals
            clear f0 f3 k0 HFB HS HXX HYY
            go_wp2
            go_loopw [11, 14] (fun v i wx => ∃ i' : Nat, i' ≤ X.length ∧ i = .int .i64 i' ∧ v = .bool ((X.take i').any fun x => Y.any fun y => hasG G x y) ∧ Bel wo wx ∧ Ints wx A4 (upN X) ∧ Ints wx A5 (upN Y)) (fun _ i _ => X.length - (intOf i).toNat)
            case atStart => exact ⟨0, Nat.zero_le _, rfl, by simp, by (repeat (first | exact Bel.refl _ | assumption | refine Bel.drew ?_ | refine Bel.drewN ?_ _ | refine Bel.alloc ?_ _ | refine Bel.setCell ?_ (by first | omega | (simp; done) | (simp; omega) | (simp at *; omega)) _ | refine Bel.trans ?_ (by assumption))), hI4.bel (by (repeat (first | exact Bel.refl _ | assumption | refine Bel.drew ?_ | refine Bel.drewN ?_ _ | refine Bel.alloc ?_ _ | refine Bel.setCell ?_ (by first | omega | (simp; done) | (simp; omega) | (simp at *; omega)) _ | refine Bel.trans ?_ (by assumption)))), hI5.bel (by (repeat (first | exact Bel.refl _ | assumption | refine Bel.drew ?_ | refine Bel.drewN ?_ _ | refine Bel.alloc ?_ _ | refine Bel.setCell ?_ (by first | omega | (simp; done) | (simp; omega) | (simp at *; omega)) _ | refine Bel.trans ?_ (by assumption))))⟩
            case round =>
              clear hI4 hI5
              obtain ⟨i', hi', rfl, hv, hbx, hX4, hX5⟩ := hrel
              have h4n : n4 = X.length := by have := HN4.out; rw [upN_length] at this; exact this
              have h5n : n5 = Y.length := by have := HN5.out; rw [upN_length] at this; exact this
              by_cases hli : i' < X.length
              · have hni' : (i' : Int) < (n4 : Int) := by omega
                obtain ⟨a4, o4, v4, rfl, -, hg4, -⟩ := hX4.at_ (k := i') (by rw [upN_length]; exact hli)
                obtain ⟨x, hx, rfl⟩ := upN_at hg4
                subst hv
                have HXS := Lib.hid (any_step (f := fun x => Y.any fun y => hasG G x y) hx)
                have HXU := Lib.hid (upN_get hx)
                have HN4' := Lib.hid h4n
                have HN5' := Lib.hid h5n
                have H2 := HYl.out
                have H3 := HXl.out
                clear hg4 hx h4n h5n
                go_wp2
                go_loopw [11, 15] (fun v j wx => ∃ j' : Nat, j' ≤ Y.length ∧ j = .int .i64 j' ∧ v = .bool ((X.take i').any (fun x => Y.any fun y => hasG G x y) || (Y.take j').any fun y => hasG G x y) ∧ Bel wo wx ∧ Ints wx (some ⟨a4, o4, none⟩) (upN X) ∧ Ints wx A5 (upN Y)) (fun _ j _ => Y.length - (intOf j).toNat)
                case atStart => exact ⟨0, Nat.zero_le _, rfl, by simp, hbx, hX4, hX5⟩
                case round =>
                  clear hbx hX4 hX5
                  obtain ⟨j', hj', rfl, hv, hbx, hX4, hX5⟩ := hrel
                  by_cases hlj : j' < Y.length
                  · have hnj' : (j' : Int) < (n5 : Int) := by have := HN5'.out; omega
                    obtain ⟨a5, o5, v5, rfl, hbl5, hg5, hc5⟩ := hX5.at_ (k := j') (by rw [upN_length]; exact hlj)
                    obtain ⟨y, hy, rfl⟩ := upN_at hg5
                    obtain ⟨hc4, hbl4⟩ := ints_cell hX4 HXU.out
                    obtain ⟨bv, hbv⟩ : ∃ bv : Bool, bv = ((X.take i').any (fun x => Y.any fun y => hasG G x y) || (Y.take j').any fun y => hasG G x y) := ⟨_, rfl⟩
                    have HQ := Lib.hid (show ((X.take i').any (fun x => Y.any fun y => hasG G x y) || (Y.take (j' + 1)).any fun y => hasG G x y) = (bv || hasG G x y) by rw [any_step (f := fun y => hasG G x y) hy, hbv, Bool.or_assoc])
                    rw [← hbv] at hv
                    subst hv
                    obtain ⟨d0, d1⟩ := Held.out _ (HBO.out.trans hbx)
                    have HBX := Lib.hid (HBW.out.trans hbx)
                    have HK := Lib.hid (fun w' (h : Bel wr w') => And.intro (Held.out w' (HBO.out.trans (hbx.trans h))) (And.intro (show w'.cell? ⟨a4, o4 + i', none⟩ = some (.int .i64 (x : Int)) by rw [h.use.1 _ _ hbl4]; exact hc4) (show w'.cell? ⟨a5, o5 + j', none⟩ = some (.int .i64 (y : Int)) by rw [h.use.1 _ _ hbl5]; exact hc5)))
                    have hi4 : (i' : Int) < (n4 : Int) := by have := HN4'.out; omega
                    clear hbv hg5 hy
                    cases bv
                    · go_wp2
                      go_region_held3 (fun w' => Bel wr w' ∧ (w'.cell? ⟨w.heap.size, 0, none⟩ = some (.int .i64 (p : Int)) ∧ w'.cell? ⟨w.heap.size, 1, none⟩ = some (.slice (some ⟨bk, ok, none⟩) n c)) ∧ w'.cell? ⟨a4, o4 + i', none⟩ = some (.int .i64 (x : Int)) ∧ w'.cell? ⟨a5, o5 + j', none⟩ = some (.int .i64 (y : Int))) (exact ⟨by (repeat (first | exact Bel.refl _ | assumption | refine Bel.drew ?_ | refine Bel.drewN ?_ _ | refine Bel.alloc ?_ _ | refine Bel.setCell ?_ (by first | omega | (simp; done) | (simp; omega) | (simp at *; omega)) _ | refine Bel.trans ?_ (by assumption))), HK.out _ (by (repeat (first | exact Bel.refl _ | assumption | refine Bel.drew ?_ | refine Bel.drewN ?_ _ | refine Bel.alloc ?_ _ | refine Bel.setCell ?_ (by first | omega | (simp; done) | (simp; omega) | (simp at *; omega)) _ | refine Bel.trans ?_ (by assumption))))⟩)
                        (first | (go_at_call 81; refine (rFeud_any p _ n c G x y _ (hR.bel (HBX.out.trans (by (repeat (first | exact Bel.refl _ | assumption | refine Bel.drew ?_ | refine Bel.drewN ?_ _ | refine Bel.alloc ?_ _ | refine Bel.setCell ?_ (by first | omega | (simp; done) | (simp; omega) | (simp at *; omega)) _ | refine Bel.trans ?_ (by assumption)))))) Hn.out h60).mono ?_; rintro e w6 ⟨rfl, hb6⟩))
                      all_goals
                        go_wp2
                        go_roundw
                        case rel => exact ⟨j' + 1, by omega, by go_num, by rw [HQ.out]; rfl, by (repeat (first | exact Bel.refl _ | assumption | refine Bel.drew ?_ | refine Bel.drewN ?_ _ | refine Bel.alloc ?_ _ | refine Bel.setCell ?_ (by first | omega | (simp; done) | (simp; omega) | (simp at *; omega)) _ | refine Bel.trans ?_ (by assumption))), hX4.bel (by (repeat (first | exact Bel.refl _ | assumption | refine Bel.drew ?_ | refine Bel.drewN ?_ _ | refine Bel.alloc ?_ _ | refine Bel.setCell ?_ (by first | omega | (simp; done) | (simp; omega) | (simp at *; omega)) _ | refine Bel.trans ?_ (by assumption)))), hX5.bel (by (repeat (first | exact Bel.refl _ | assumption | refine Bel.drew ?_ | refine Bel.drewN ?_ _ | refine Bel.alloc ?_ _ | refine Bel.setCell ?_ (by first | omega | (simp; done) | (simp; omega) | (simp at *; omega)) _ | refine Bel.trans ?_ (by assumption))))⟩
                        case measure => simp [intOf]; omega
                    · go_wp2
                      go_quiet (fail)
                      go_wp2
                      go_roundw
                      case rel => exact ⟨j' + 1, by omega, by go_num, by rw [HQ.out]; rfl, by (repeat (first | exact Bel.refl _ | assumption | refine Bel.drew ?_ | refine Bel.drewN ?_ _ | refine Bel.alloc ?_ _ | refine Bel.setCell ?_ (by first | omega | (simp; done) | (simp; omega) | (simp at *; omega)) _ | refine Bel.trans ?_ (by assumption))), hX4.bel (by (repeat (first | exact Bel.refl _ | assumption | refine Bel.drew ?_ | refine Bel.drewN ?_ _ | refine Bel.alloc ?_ _ | refine Bel.setCell ?_ (by first | omega | (simp; done) | (simp; omega) | (simp at *; omega)) _ | refine Bel.trans ?_ (by assumption)))), hX5.bel (by (repeat (first | exact Bel.refl _ | assumption | refine Bel.drew ?_ | refine Bel.drewN ?_ _ | refine Bel.alloc ?_ _ | refine Bel.setCell ?_ (by first | omega | (simp; done) | (simp; omega) | (simp at *; omega)) _ | refine Bel.trans ?_ (by assumption))))⟩
                      case measure => simp [intOf]; omega
                  · obtain rfl : j' = Y.length := by omega
                    have HQ := Lib.hid (show ((X.take i').any (fun x => Y.any fun y => hasG G x y) || (Y.take Y.length).any fun y => hasG G x y) = (X.take (i' + 1)).any fun x => Y.any fun y => hasG G x y by rw [HXS.out, List.take_length])
                    have hnj' : ¬ ((Y.length : Int) < (n5 : Int)) := by have := HN5'.out; omega
                    subst hv
                    go_wp2
                    go_roundw
                    case rel => exact ⟨i' + 1, by omega, by go_num, by rw [HQ.out], hbx, hX4, hX5⟩
                    case measure => simp [intOf]; omega
              · obtain rfl : i' = X.length := by omega
                have hni' : ¬ ((X.length : Int) < (n4 : Int)) := by omega
                clear h4n h5n
                obtain ⟨bB, hbB⟩ : ∃ bB : Bool, bB = hasG (G.map (mgF (f1, f2))) a m := ⟨_, rfl⟩
                have hv2 : u11 = .bool bB := by rw [hv, hbB, HH.out, List.take_length]
                subst hv2
                have hO2 := HO.out.beL hbx
                have HBB := Lib.hid hbB
                have HQ := Lib.hid (wrRow_succ (G := G.map (mgF (f1, f2))) (b := true) (a := a) (m := m) (by omega))
                clear hv hbB hX4 hX5
                cases bB
                · have HQ2 := Lib.hid (show wrTo (G.map (mgF (f1, f2))) true (p - 1) a ++ wrRow (G.map (mgF (f1, f2))) true a (m + 1) = wrTo (G.map (mgF (f1, f2))) true (p - 1) a ++ wrRow (G.map (mgF (f1, f2))) true a m by rw [HQ.out, if_neg (by rw [← HBB.out]; simp), List.append_nil])
                  go_wp2
                  go_roundw
                  case rel => exact ⟨m + 1, by omega, by omega, by go_num, by rw [HQ2.out]; exact hO2⟩
                  case measure => simp [intOf]; omega
                · have HQ2 := Lib.hid (show wrTo (G.map (mgF (f1, f2))) true (p - 1) a ++ wrRow (G.map (mgF (f1, f2))) true a (m + 1) = (wrTo (G.map (mgF (f1, f2))) true (p - 1) a ++ wrRow (G.map (mgF (f1, f2))) true a m) ++ [(a, m)] by rw [HQ.out, if_pos HBB.out.symm, List.append_assoc])
                  obtain ⟨v, hv, hOv⟩ := hO2.own
                  have hwl : (up (wrTo (G.map (mgF (f1, f2))) true (p - 1) a ++ wrRow (G.map (mgF (f1, f2))) true a m)).length ≤ 100 := by
                    have h1 := wrTo_len (G.map (mgF (f1, f2))) true (p - 1) a
                    have h2 := wrRow_len (G.map (mgF (f1, f2))) true a m
                    have h3 : (p - 1) * a ≤ 7 * 7 := Nat.mul_le_mul (by omega) (by omega)
                    rw [up_length, List.length_append]
                    omega
                  have HO2 := Lib.hid hO2
                  obtain ⟨Z, hZ⟩ : ∃ Z, Z = up (wrTo (G.map (mgF (f1, f2))) true (p - 1) a ++ wrRow (G.map (mgF (f1, f2))) true a m) := ⟨_, rfl⟩
                  rw [← hZ] at hOv hwl HO2
                  have HZ := Lib.hid hZ
                  have hX1 := Lib.hid (show Z.length + 1 ≤ maxLen by unfold maxLen; omega)
                  have hX2 := Lib.hid (show (Z.length + 1) * 16 ≤ 140737488355328 by omega)
                  have hltw : w1.heap.size + 1 < wr.heap.size := hO2.lt
                  have hfz := hO2.fz 1
                  have HOv := Lib.hid hOv
                  clear hZ hOv hO2
                  go_wp2_with (at_builtin; go_loud (refine wpList_append_lies _ rfl (.tmp 79) (.tmp 83) 22 rfl (w1.heap.size + 1 + 1) 45 i0 _ 2 16 Try.underlying22 hi hz0 hz1 hz2 rfl (by decide) v Z.length (cel2 Z) (by rfl) (HOv.out.alloc _) ⟨wr.heap.size, 0, none⟩ 1 1 [.int .i64 (a : Int), .int .i64 (m : Int)] (by rfl) rfl (newF _ _ _ _ _ rfl) (one2 _ _) (by omega) hX1.out hX2.out (by simp; omega) _ rfl ?_); intro g3 cap3 w3 hown3 hgr3 hat3 hlt3; obtain ⟨hk1, hk2, hk3⟩ := out_kept HO2.out hv ((Bel.refl _).alloc _) hgr3)
                  have HO3 := Lib.hid (HO2.out.put hv ((Bel.refl _).alloc _) hgr3 hown3)
                  clear hown3 hgr3 hat3 hlt3
                  go_roundw
                  case rel => exact ⟨m + 1, by omega, by omega, by go_num, by rw [HQ2.out, up_app, ← HZ.out]; exact HO3.out⟩
                  case measure => simp [intOf]; omega
        · obtain rfl : m = p - 1 := by omega
          have HQ := Lib.hid (wrTo_succ (G.map (mgF (f1, f2))) true (p - 1) a)
          have hmp : ((p - 1 : Nat) : Int) = (p : Int) - 1 := by omega
          rw [hmp]
          go_wp2
          go_roundw
          case rel => exact ⟨a + 1, by omega, by go_num, by rw [HQ.out]; exact hO⟩
          case measure => simp [intOf]; omega
    · obtain rfl : a = p - 1 := by omega
      have hmp : ((p - 1 : Nat) : Int) = (p : Int) - 1 := by omega
      obtain ⟨v, hv, hOv⟩ := hO.own
      obtain ⟨A9, n9, c9, rfl, hn9⟩ := hOv.form
      have HP := Lib.hid hOv.prs
      have HN9 := Lib.hid hn9
      have HLT := Lib.hid (show ∀ b o, A9 = some ⟨b, o, none⟩ → w1.heap.size + 1 + 1 ≤ b ∧ b < wr.heap.size from fun b o e => by
        subst e
        exact World.ownsRow.lt hOv b rfl)
      have hw1 := HB12.out.trans hO.bel
      obtain ⟨⟨r0, r1⟩, rf⟩ := hres.out _ hw1
      have rf0 := rf 0
      have rf1 := rf 1
      have hltw : w1.heap.size + 1 < wr.heap.size := hO.lt
      have hbwr := HB2.out.trans hO.bel
      have HR0 := Lib.hid r0; have HR1 := Lib.hid r1
      clear hn9 hO hOv rf
      rw [hmp]
      go_wp2
      obtain ⟨q0, q1⟩ := stored2 (x := .int .i64 ((p : Int) - 1)) (y := .slice A9 n9 c9) HR0.out HR1.out
      refine bodyPost_ret (v := .tuple #[.agg #[.int .i64 ((p : Int) - 1), .slice A9 n9 c9], .int .i64 0]) (by simp [results, Try.results73, go_sem, q0, q1]) rfl ⟨A9, n9, c9, rfl, HN9.out, by (repeat (first | exact Bel.refl _ | assumption | refine Bel.drew ?_ | refine Bel.drewN ?_ _ | refine Bel.alloc ?_ _ | refine Bel.setCell ?_ (by first | omega | (simp; done) | (simp; omega) | (simp at *; omega)) _ | refine Bel.trans ?_ (by assumption))), ?_, ?_⟩
      · refine (HP.out.far (fun b o e => ?_) _).far (fun b o e => ?_) _ <;> (have := (HLT.out b o e).1; simp; omega)
      · intro b o e
        have h1 := HLT.out b o e
        have h2 := hw1.size
        exact ⟨by omega, by rw [setCell_size, setCell_size]; exact h1.2⟩
end Go.Proofs.Ytcndmfkbfimllaa
