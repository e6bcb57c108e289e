/- The document's table, walked. -/
import Derived.Test.YtogeackcnmeooaaJK
import Derived.BigRegion
import Derived.RegionTactic
namespace Go.Proofs.Ytogeackcnmeooaa
open Go.RowKit

theorem zero77 : Try.zeroCells77 = tabZ := by kernel_rfl
theorem Tab.made (w : World) (C : Array Value) (t : TypeId) (F : Nat → Nat → Bool) (hC : ∀ a b, a < 33 → b < 33 → C[a * 33 + b]? = some (.bool (F a b))) : Tab (w.alloc (.cells C t)) w.heap.size F :=
  ⟨by simp, fun i => by simp, fun a b ha hb => by rw [World.cell?_alloc_new]; exact hC a b ha hb⟩
theorem first_cells (n : Nat) : ∀ a b, a < 33 → b < 33 → (((Try.zeroCells77.setIfInBounds 0 (Value.bool true)).setIfInBounds 1 (Value.bool true)).setIfInBounds 33 (Value.bool true))[a * 33 + b]? = some (.bool (tF n 0 a b)) := by
  intro a b ha hb
  have hz : Try.zeroCells77.size = 1089 := by rw [zero77]; simp [tabZ]
  have hk : a * 33 + b < 1089 := by omega
  have h0 : Try.zeroCells77[a * 33 + b]? = some (.bool false) := by rw [zero77]; simp [tabZ, hk]
  rw [tF_zero, Array.getElem?_setIfInBounds, Array.getElem?_setIfInBounds, Array.getElem?_setIfInBounds, h0]
  simp only [Array.size_setIfInBounds, hz]
  by_cases e1 : 33 = a * 33 + b
  · rw [if_pos e1, if_pos (by omega), decide_eq_true (by omega)]
  · rw [if_neg e1]
    by_cases e2 : 1 = a * 33 + b
    · rw [if_pos e2, if_pos (by omega), decide_eq_true (by omega)]
    · rw [if_neg e2]
      by_cases e3 : 0 = a * 33 + b
      · rw [if_pos e3, if_pos (by omega), decide_eq_true (by omega)]
      · rw [if_neg e3, decide_eq_false (by omega)]
theorem zero_cells : ∀ a b, a < 33 → b < 33 → Try.zeroCells77[a * 33 + b]? = some (.bool ((fun _ _ => false : Nat → Nat → Bool) a b)) := by
  intro a b ha hb
  have hk : a * 33 + b < 1089 := by omega
  rw [zero77]
  simp [tabZ, hk]

/-- All that is kept while the next table is made. -/
structure St (w wr : World) (G n k : Nat) (F : Nat → Nat → Bool) : Prop where
  bel : Bel w wr
  t4 : Tab wr w.heap.size (fun _ _ => false)
  t5 : Tab wr (w.heap.size + 1) (tF n k)
  t7 : Tab wr G F
  lt : w.heap.size + 1 < G
theorem St.congr {w wr : World} {G n k : Nat} {F F' : Nat → Nat → Bool} (h : St w wr G n k F) (e : ∀ a b, F' a b = F a b) : St w wr G n k F' := ⟨h.bel, h.t4, h.t5, h.t7.congr fun a b _ _ => e a b, h.lt⟩
theorem St.drewN {w wr : World} {G n k : Nat} {F : Nat → Nat → Bool} (h : St w wr G n k F) (m : Nat) : St w (wr.drewN m) G n k F :=
  ⟨h.bel.drewN m, h.t4.bel ((Bel.refl _).drewN m), h.t5.bel ((Bel.refl _).drewN m), h.t7.bel ((Bel.refl _).drewN m), h.lt⟩
theorem St.put {w wr : World} {G n k i j x : Nat} {v u : Bool} (h : St w wr G n k (vF n k i j v)) (hi : i < 33) (hj : j < 33) (hx : x = i * 33 + j) : St w (wr.setCell ⟨G, x, none⟩ (.bool u)) G n k (vF n k i j u) := by
  have hl := h.lt
  exact ⟨h.bel.setCell (by show w.heap.size ≤ G; omega) _, h.t4.far (by show w.heap.size ≠ G; omega) _, h.t5.far (by show w.heap.size + 1 ≠ G; omega) _, (h.t7.put hi hj hx u).congr fun a b _ _ => vF_put n k i j v u a b, hl⟩

set_option maxRecDepth 100000 in
set_option maxHeartbeats 4000000 in
theorem table_any (n q : Nat) (w : World) (hn : n ≤ 32) (hq : q ≤ 12) :
    Calls Try.prog 67 #[.int .i64 (n : Int), .int .i64 (q : Int)] w fun e w' => e = .returned (.agg (tabL (tF n q)).toArray) ∧ Bel w w' := by
  have hni : (n : Int) ≤ 32 := by omega
  have hqi : (q : Int) ≤ 12 := by omega
  go_enter Try.func67, Try.ntmps67
  go_wp2
  have t4 : Tab ((w.alloc (.cells Try.zeroCells77 77)).alloc (.cells (((Try.zeroCells77.setIfInBounds 0 (Value.bool true)).setIfInBounds 1 (Value.bool true)).setIfInBounds 33 (Value.bool true)) 77)) w.heap.size (fun _ _ => false) := (Tab.made w _ _ _ zero_cells).bel ((Bel.refl _).alloc _)
  have t5 : Tab ((w.alloc (.cells Try.zeroCells77 77)).alloc (.cells (((Try.zeroCells77.setIfInBounds 0 (Value.bool true)).setIfInBounds 1 (Value.bool true)).setIfInBounds 33 (Value.bool true)) 77)) (w.heap.size + 1) (tF n 0) := by
    have := Tab.made (w.alloc (.cells Try.zeroCells77 77)) _ 77 _ (first_cells n)
    simpa using this
  have hb0 : Bel w ((w.alloc (.cells Try.zeroCells77 77)).alloc (.cells (((Try.zeroCells77.setIfInBounds 0 (Value.bool true)).setIfInBounds 1 (Value.bool true)).setIfInBounds 33 (Value.bool true)) 77)) := by (repeat (first | exact Bel.refl _ | assumption | refine Bel.drew ?_ | refine Bel.drewN ?_ _ | refine Bel.alloc ?_ _ | refine Bel.setCell ?_ (by first | omega | (simp; done) | (simp; omega) | (simp at *; omega)) _ | refine Bel.trans ?_ (by assumption)))
  generalize (w.alloc (.cells Try.zeroCells77 77)).alloc (.cells (((Try.zeroCells77.setIfInBounds 0 (Value.bool true)).setIfInBounds 1 (Value.bool true)).setIfInBounds 33 (Value.bool true)) 77) = w0 at *
  go_loopw [6] (fun i wr => ∃ k : Nat, k ≤ q ∧ i = .int .i64 k ∧ Bel w wr ∧ Tab wr w.heap.size (fun _ _ => false) ∧ Tab wr (w.heap.size + 1) (tF n k)) (fun i _ => q - (intOf i).toNat)
  case atStart => exact ⟨0, Nat.zero_le _, rfl, hb0, t4, t5⟩
  case round =>
    clear t4 t5 hb0
    obtain ⟨k, hk, rfl, hb, t4, t5⟩ := hrel
    obtain ⟨X, hX⟩ : ∃ X, X = tabL (tF n k) := ⟨_, rfl⟩
    have hr5 := t5.range
    rw [← hX] at hr5
    have hin : (Try.prog.info? 77).map (·.size) = some X.length := by rw [infoTab, hX, tabL_length]
    have hsz : X.toArray.size = 1089 := by rw [hX]; simp [tabL]
    have hone : X.toArray.all (·.oneCell') = true := by rw [hX]; exact all_oneCell_toArray (tabL_one _)
    have HX := Lib.hid hX; have HI := Lib.hid hin; have HS := Lib.hid hsz; have HO := Lib.hid hone
    clear hX hin hsz hone
    by_cases hlt : k < q
    · have t7 := Tab.made wr _ 77 _ zero_cells
      have hth : (wr.alloc (.cells Try.zeroCells77 77)).there wr.heap.size 0 X.toArray.size := by rw [HS.out]; exact t7.there
      have hin2 : (Try.prog.info? 77).map (·.size) = some X.toArray.size := by rw [infoTab, HS.out]
      have HT7 := Lib.hid t7; have HTH := Lib.hid hth; have HI2 := Lib.hid hin2
      clear t7 hth hin2
      go_wp2_with (first | (refine wpList_load_mid rfl 77 _ rfl (w.heap.size + 1) 0 rfl X _ hr5 Try.underlying77 rfl HI.out ?_) | (refine wpList_store_mid rfl 77 (.tmp 7) _ rfl wr.heap.size 0 X.toArray rfl rfl HTH.out HI2.out HO.out ?_))
      have hst : St w ((wr.alloc (.cells Try.zeroCells77 77)).setCells wr.heap.size 0 X) wr.heap.size n k (gF n k 0 0) := by
        rw [HX.out]
        have hl := t5.lt
        have hb1 : Bel wr (wr.alloc (.cells Try.zeroCells77 77)) := (Bel.refl _).alloc _
        exact ⟨(hb.alloc _).setCells hb.size 0 _, (t4.bel hb1).far' (by omega) 0 _, (t5.bel hb1).far' (by omega) 0 _, (HT7.out.stored (tF n k)).congr fun a b _ _ => gF_start n k a b, hl⟩
      generalize (wr.alloc (.cells Try.zeroCells77 77)).setCells wr.heap.size 0 X = w2 at *
      obtain ⟨G, hG⟩ : ∃ G, G = wr.heap.size := ⟨_, rfl⟩
      rw [← hG] at hst ⊢
      clear HX HI HS HO HT7 HTH HI2 hr5 t4 t5 hb hG
      go_loopw [8] (fun s wr => ∃ i : Nat, i ≤ n + 1 ∧ s = .int .i64 i ∧ St w wr G n k (gF n k i 0)) (fun s _ => n + 1 - (intOf s).toNat)
      case atStart => exact ⟨0, Nat.zero_le _, rfl, hst⟩
      case round =>
        clear hst
        obtain ⟨i, hi, rfl, hst⟩ := hrel
        by_cases hli : i < n + 1
        · have hii : (i : Int) ≤ (n : Int) := by omega
          go_wp2
          obtain ⟨wo, hwo⟩ : ∃ wo : World, wo = wr := ⟨_, rfl⟩
          subst hwo
          go_loopw [9] (fun s wr => ∃ j : Nat, i + j ≤ n + 1 ∧ s = .int .i64 j ∧ St w wr G n k (gF n k i j)) (fun s _ => n + 1 - (intOf s).toNat)
          case atStart => exact ⟨0, by omega, rfl, hst⟩
          case round =>
            clear hst
            obtain ⟨j, hj, rfl, hst⟩ := hrel
            by_cases hlj : i + j ≤ n
            · have hij : (i : Int) + (j : Int) ≤ (n : Int) := by omega
              have hs1 := hst.congr (vF_start (q := k) hlj)
              clear hst
              go_wp2
              obtain ⟨wo2, hwo2⟩ : ∃ wo : World, wo = wr := ⟨_, rfl⟩
              subst hwo2
              go_loopw [10] (fun s wr => ∃ (x : Nat) (v : Bool), x ≤ i + 1 ∧ s = .int .i64 x ∧ St w wr G n k (vF n k i j v) ∧ Part k i j x 0 v) (fun s _ => i + 1 - (intOf s).toNat)
              case atStart => exact ⟨0, _, by omega, rfl, hs1, Part.start k i j⟩
              case round =>
                clear hs1
                obtain ⟨x, v, hx, rfl, hst, hp⟩ := hrel
                have hcell := hst.t7.cells i j (by omega) (by omega)
                have evv : vF n k i j v i j = v := if_pos ⟨rfl, rfl⟩
                rw [evv] at hcell
                have hG := hst.t7.lt
                have HP := Lib.hid hp
                have hi33 : (i : Int) < 33 := by omega
                have hj33 : (j : Int) < 33 := by omega
                clear evv hp
                by_cases hlx : x ≤ i
                · cases v
                  · have hxi : (x : Int) ≤ (i : Int) := by omega
                    go_wp2
                    obtain ⟨wo3, hwo3⟩ : ∃ wo : World, wo = wr := ⟨_, rfl⟩
                    subst hwo3
                    go_loopw [11] (fun s wr => ∃ (y : Nat) (v : Bool), y ≤ j + 1 ∧ s = .int .i64 y ∧ St w wr G n k (vF n k i j v) ∧ Part k i j x y v) (fun s _ => j + 1 - (intOf s).toNat)
                    case atStart => exact ⟨0, false, by omega, rfl, hst, HP.out⟩
                    case round =>
                      clear hst hcell HP
                      obtain ⟨y, v, hy, rfl, hst, hp⟩ := hrel
                      have hcell := hst.t7.cells i j (by omega) (by omega)
                      have evv : vF n k i j v i j = v := if_pos ⟨rfl, rfl⟩
                      rw [evv] at hcell
                      have HP := Lib.hid hp
                      clear evv hp
                      by_cases hly : y ≤ j
                      · cases v
                        · have hyj : (y : Int) ≤ (j : Int) := by omega
                          obtain ⟨c, hc⟩ : ∃ c : Nat, c = y + (i - x) := ⟨_, rfl⟩
                          obtain ⟨d, hd⟩ : ∃ d : Nat, d = i - x := ⟨_, rfl⟩
                          obtain ⟨f, hf⟩ : ∃ f : Nat, f = j - y + x := ⟨_, rfl⟩
                          have hgd : good k i j x y = (en k x c && en k d f) := by unfold good; rw [hc, hd, hf]
                          have h1 := hst.t5.cells x c (by omega) (by omega)
                          have h2 := hst.t5.cells d f (by omega) (by omega)
                          rw [tF_in (by omega)] at h1 h2
                          have hfz := hst.t7.fz (i * 33 + j)
                          have HM := Lib.hid (HP.out.more hlx hly)
                          have E1 : (y : Int) + (i : Int) - (x : Int) = (c : Int) := by omega
                          have E2 : (i : Int) - (x : Int) = (d : Int) := by omega
                          have E3 : (j : Int) - (y : Int) + (x : Int) = (f : Int) := by omega
                          have hx33 : (x : Int) < 33 := by omega
                          have hc33 : (c : Int) < 33 := by omega
                          have hd33 : (d : Int) < 33 := by omega
                          have hf33 : (f : Int) < 33 := by omega
                          have hy33 : (y : Int) < 33 := by omega
                          have HC := Lib.hid hc; have HGD := Lib.hid hgd
                          have hlG := hst.lt
                          clear hc hd hf hgd
                          have w1 : IntKind.i64.wrap ((y : Int) + (i : Int)) = (y : Int) + (i : Int) := IntWalk.i64_in _ (by omega)
                          have w2 : IntKind.i64.wrap ((y : Int) + (i : Int) - (x : Int)) = (c : Int) := by rw [E1]; exact IntWalk.i64_in _ (by omega)
                          cases ha : en k x c
                          · rw [ha] at h1
                            have HA := Lib.hid (show good k i j x y = false by rw [HGD.out, ha]; rfl)
                            clear ha
                            go_wp2
                            go_region
                            all_goals
                              have hs3 := Lib.hid (fun m => (hst.drewN m).put (u := false) (x := i * 33 + j) (by omega) (by omega) rfl)
                              clear hst w1 w2 E1 E2 E3 h1 h2 hcell
                              go_wp2
                              go_roundw
                              case rel => exact ⟨y + 1, false, by omega, by go_num, hs3.out _, by have := HM.out; rw [HA.out] at this; exact this⟩
                              case measure => simp [intOf]; omega
                          · rw [ha] at h1
                            obtain ⟨u, hu⟩ : ∃ u, u = en k d f := ⟨_, rfl⟩
                            rw [← hu] at h2
                            have HA := Lib.hid (show good k i j x y = u by rw [HGD.out, ha, hu]; rfl)
                            have w3 : IntKind.i64.wrap ((i : Int) - (x : Int)) = (d : Int) := by rw [E2]; exact IntWalk.i64_in _ (by omega)
                            have w4 : IntKind.i64.wrap ((j : Int) - (y : Int)) = (j : Int) - (y : Int) := IntWalk.i64_in _ (by omega)
                            have w5 : IntKind.i64.wrap ((j : Int) - (y : Int) + (x : Int)) = (f : Int) := by rw [E3]; exact IntWalk.i64_in _ (by omega)
                            clear ha hu
                            go_wp2
                            go_region
                            all_goals
                              have hs3 := Lib.hid (fun m => (hst.drewN m).put (u := u) (x := i * 33 + j) (by omega) (by omega) rfl)
                              clear hst w1 w2 w3 w4 w5 E1 E2 E3 h1 h2 hcell
                              go_wp2
                              go_roundw
                              case rel => exact ⟨y + 1, u, by omega, by go_num, hs3.out _, by have := HM.out; rw [HA.out] at this; exact this⟩
                              case measure => simp [intOf]; omega
                        · have HQ := Lib.hid (HP.out.next (fun h => by cases h))
                          go_wp2
                          go_roundw
                          case rel => exact ⟨x + 1, true, by omega, by go_num, hst, HQ.out⟩
                          case measure => simp [intOf]; omega
                      · have hyj : (j : Int) < (y : Int) := by omega
                        have HQ := Lib.hid (HP.out.next (fun _ => by omega))
                        go_wp2
                        go_roundw
                        case rel => exact ⟨x + 1, v, by omega, by go_num, hst, HQ.out⟩
                        case measure => simp [intOf]; omega
                  · have HD := Lib.hid (HP.out.done (fun h => by cases h))
                    have hs2 : St w wr G n k (gF n k i (j + 1)) := hst.congr (fun a b => by rw [← vF_end hlj a b, ← HD.out])
                    clear hst
                    go_wp2
                    go_roundw
                    case rel => exact ⟨j + 1, by omega, by go_num, hs2⟩
                    case measure => simp [intOf]; omega
                · have hxi : (i : Int) < (x : Int) := by omega
                  have HD := Lib.hid (HP.out.done (fun _ => by omega))
                  have hs2 : St w wr G n k (gF n k i (j + 1)) := hst.congr (fun a b => by rw [← vF_end hlj a b, ← HD.out])
                  clear hst
                  go_wp2
                  go_roundw
                  case rel => exact ⟨j + 1, by omega, by go_num, hs2⟩
                  case measure => simp [intOf]; omega
            · have hij : (n : Int) < (i : Int) + (j : Int) := by omega
              have hs1 := hst.congr (fun a b => gF_row n k i j a b (by omega))
              clear hst
              go_wp2
              go_roundw
              case rel => exact ⟨i + 1, by omega, by go_num, hs1⟩
              case measure => simp [intOf]; omega
        · obtain rfl : i = n + 1 := by omega
          have hs1 := hst.congr (fun a b => (gF_end n k a b).symm)
          obtain ⟨Y, hY⟩ : ∃ Y, Y = tabL (tF n (k + 1)) := ⟨_, rfl⟩
          have hr7 := hs1.t7.range
          rw [← hY] at hr7
          have hin : (Try.prog.info? 77).map (·.size) = some Y.length := by rw [infoTab, hY, tabL_length]
          have hsz : Y.toArray.size = 1089 := by rw [hY]; simp [tabL]
          have hin2 : (Try.prog.info? 77).map (·.size) = some Y.toArray.size := by rw [infoTab, hsz]
          have hone : Y.toArray.all (·.oneCell') = true := by rw [hY]; exact all_oneCell_toArray (tabL_one _)
          have hth : wr.there (w.heap.size + 1) 0 Y.toArray.size := by rw [hsz]; exact hs1.t5.there
          have hE : Bel w (wr.setCells (w.heap.size + 1) 0 Y) ∧ Tab (wr.setCells (w.heap.size + 1) 0 Y) w.heap.size (fun _ _ => false) ∧ Tab (wr.setCells (w.heap.size + 1) 0 Y) (w.heap.size + 1) (tF n (k + 1)) := by
            rw [hY]
            exact ⟨hs1.bel.setCells (by omega) 0 _, hs1.t4.far' (by omega) 0 _, hs1.t5.stored _⟩
          have HI := Lib.hid hin; have HI2 := Lib.hid hin2; have HO := Lib.hid hone; have HTH := Lib.hid hth
          obtain ⟨e1, e2, e3⟩ := hE
          have hnn : (n : Int) < ((n + 1 : Nat) : Int) := by omega
          clear hst hs1 hY hin hin2 hone hth hsz
          go_wp2_with (first | (refine wpList_load_mid rfl 77 _ rfl G 0 rfl Y _ hr7 Try.underlying77 rfl HI.out ?_) | (refine wpList_store_mid rfl 77 (.tmp 5) _ rfl (w.heap.size + 1) 0 Y.toArray rfl rfl HTH.out HI2.out HO.out ?_))
          go_roundw
          case rel => exact ⟨k + 1, by omega, by go_num, e1, e2, e3⟩
          case measure => simp [intOf]; omega
    · obtain rfl : k = q := by omega
      have hin2 : (Try.prog.info? 77).map (·.size) = some X.toArray.size := by rw [infoTab, HS.out]
      have hth : wr.there w.heap.size 0 X.toArray.size := by rw [HS.out]; exact t4.there
      have hE : Bel w (wr.setCells w.heap.size 0 X) ∧ Tab (wr.setCells w.heap.size 0 X) w.heap.size (tF n k) := by
        rw [HX.out]
        exact ⟨hb.setCells (Nat.le_refl _) 0 _, t4.stored _⟩
      have HI2 := Lib.hid hin2; have HTH := Lib.hid hth
      obtain ⟨e1, e2⟩ := hE
      clear hin2 hth t4 t5 hb
      go_wp2_with (first | (refine wpList_load_mid rfl 77 _ rfl (w.heap.size + 1) 0 rfl X _ hr5 Try.underlying77 rfl HI.out ?_) | (refine wpList_store_mid rfl 77 (.tmp 4) _ rfl w.heap.size 0 X.toArray rfl rfl HTH.out HI2.out HO.out ?_))
      exact bodyPost_ret (results_tab Try.results67 _ _ w.heap.size _ rfl e2) rfl ⟨rfl, e1⟩
end Go.Proofs.Ytogeackcnmeooaa
