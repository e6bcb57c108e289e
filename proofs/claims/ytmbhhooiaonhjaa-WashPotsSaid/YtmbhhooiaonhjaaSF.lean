/- The document's Pots, where nothing is wrong. -/
import Derived.Test.YtmbhhooiaonhjaaSE
namespace Go.Proofs.Ytmbhhooiaonhjaa
open Go.RowKit

theorem stf_le {d s x : Int} {ts : List Int} {k : Nat} (h3 : 1 ≤ d) (h4 : d ≤ 20) (hs : 0 ≤ s) (hx : 0 ≤ x) (hx2 : x ≤ 100) (ht : ∀ t ∈ ts, 0 ≤ t) (hk : k ≤ 3) (hl : k ≤ ts.length) :
    0 ≤ stf d (ts.take k) s x ∧ stf d (ts.take k) s x ≤ 800000 ∧ (k ≤ 2 → stf d (ts.take k) s x ≤ 40000) ∧ 0 < d ^ k ∧ d ^ k ≤ 8000 ∧ (k ≤ 2 → d ^ k ≤ 400) := by
  have hlk : (ts.take k).length = k := by rw [List.length_take]; omega
  obtain ⟨a, b⟩ := stf_bd (d := d) (s := s) h3 hs (ts.take k) x (fun t h => ht t (List.mem_of_mem_take h)) hx
  rw [hlk] at b
  have hp : 0 < d ^ k := Int.pow_pos (by omega)
  have h8 : d ^ k ≤ 8000 ∧ (k ≤ 2 → d ^ k ≤ 400) := by
    have q1 : d * d ≤ 400 := by have := (mul_bd (A := 20) (B := 20) (by omega : 0 ≤ d) h4 (by omega : 0 ≤ d) h4).2; omega
    have q0 : 0 ≤ d * d := Int.mul_nonneg (by omega) (by omega)
    have q2 : d * d * d ≤ 8000 := by have := (mul_bd (A := 400) (B := 20) q0 q1 (by omega : 0 ≤ d) h4).2; omega
    match k, hk with
    | 0, _ => simp
    | 1, _ => rw [show d ^ 1 = d from by simp [Int.pow_succ]]; omega
    | 2, _ => rw [show d ^ 2 = d * d from by simp [Int.pow_succ]]; omega
    | 3, _ => rw [show d ^ 3 = d * d * d from by simp [Int.pow_succ]]; omega
  refine ⟨a, ?_, fun h => ?_, hp, h8.1, h8.2⟩
  · have := (mul_bd (A := 100) (B := 8000) hx hx2 (Int.le_of_lt hp) h8.1).2
    omega
  · have := (mul_bd (A := 100) (B := 400) hx hx2 (Int.le_of_lt hp) (h8.2 h)).2
    omega
theorem cellK_some {ts : List Int} {d : Int} {k : Nat} {t s x : Int} (h : ts[k]? = some t) : cellK ts d k (s, x) = nd (stf d (ts.take k) s x * skn s t d) (d ^ k * d) := by
  unfold cellK
  rw [h]
theorem cellK_none {ts : List Int} {d : Int} {k : Nat} {s x : Int} (h : ts[k]? = none) : cellK ts d k (s, x) = nd (stf d (ts.take k) s x) (d ^ k) := by
  unfold cellK
  rw [h]

set_option maxRecDepth 100000 in
set_option maxHeartbeats 8000000 in
theorem rPots_ok (A B : Option Addr) (n c m e : Nat) (gs : List (Int × Int)) (ts : List Int) (d : Int) (w : World) (hR : Prs w A gs) (hT : Ints w B ts) (hn : gs.length = n) (hm : ts.length = m) (hE : potsE gs ts d = 0) :
    Calls Try.prog 17 #[.slice A n c, .slice B m e, .int .i64 d] w fun e w' => ∃ v, e = .returned (.tuple #[v, .int .i64 0]) ∧ OwnT w.heap.size w' v (potsL gs ts d) ∧ Bel w w' := by
  obtain ⟨i0, hi, hz0, hz1, hz2⟩ := info_parts info1R
  obtain ⟨i1, hj', hy0, hy1, hy2⟩ := info_parts info2R
  obtain ⟨he, h3, hts, d1, d2⟩ := potsE_zero hE
  have hf := fit_of gs he
  have hd : within d 1 20 = true := within_iff.2 ⟨d1, d2⟩
  have hall : timesB ts = true := by simp only [timesB, List.all_eq_true]; exact fun t ht => within_iff.2 (hts t ht)
  have hn6 : n ≤ 6 := by have := (errV_zero he).1; omega
  have hm3 : m ≤ 3 := by omega
  have hm3' : ¬ (3 : Int) < (m : Int) := by omega
  have hat : Hid (∀ k, k ≤ m → (potsL gs ts d)[k]? = some (gs.map (cellK ts d k))) := fun k hk => by rw [potsL_at hf d1 ts (fun t ht => (hts t ht).1) k (by rw [hm]; exact hk), rowK_map]
  have hs0 : (within 0 0 100 && within d 1 20) = true := by rw [hd]; rfl
  have HLEN : Hid ((potsL gs ts d).length = m + 1) := by show _ = _; rw [potsL_length, hm]
  have HTS := Lib.hid hts; have HE := Lib.hid he; have Hn := Lib.hid hn; have Hm := Lib.hid hm; have HF := Lib.hid hf; have HALL := Lib.hid hall; have HD := Lib.hid hd
  clear hE h3 hts he hn hm hf hall hd
  go_enter Try.func17, Try.ntmps17
  go_wp2_with fail
  refine (rvalidate_any A n c gs _ hR Hn.out (by unfold maxLen; omega)).mono ?_
  rintro e w1 ⟨rfl, hb1⟩
  rw [HE.out]
  have hT1 := hT.bel hb1
  go_wp2
  go_loop [9] (fun i => ∃ k : Nat, k ≤ m ∧ i = .int .i64 k) (fun i => m - (intOf i).toNat)
  case atStart => exact ⟨0, Nat.zero_le _, rfl⟩
  case round =>
    obtain ⟨k, hk, rfl⟩ := hrel
    by_cases hlt : k < m
    · obtain ⟨b, o, t, rfl, hbl, hg, hc1⟩ := hT1.at_ (k := k) (by rw [Hm.out]; exact hlt)
      obtain ⟨-, hs⟩ := allT HALL.out HD.out hg
      have hkm : (k : Int) < (m : Int) := by omega
      clear hg
      go_wp2_with (go_at_call 36; refine (settling_any _ _ _).mono ?_; rintro e w' ⟨rfl, rfl⟩)
      go_round
      case rel => exact ⟨k + 1, by omega, by go_num⟩
      case measure => simp [intOf]; omega
    · obtain rfl : k = m := by omega
      go_wp2_with (go_at_call 36; refine (settling_any _ _ _).mono ?_; rintro e w' ⟨rfl, rfl⟩)
      clear hT1
      go_loopw [10, 11, 12, 13, 14, 15, 16] (fun v i _ _ _ _ _ wr => ∃ q : Nat, q ≤ k + 1 ∧ i = .int .i64 q ∧ Bel w1 wr ∧ OwnT w1.heap.size wr v ((potsL gs ts d).take q)) (fun _ i _ _ _ _ _ _ => k + 1 - (intOf i).toNat)
      case atStart => exact ⟨0, Nat.zero_le _, rfl, Bel.refl _, OwnT.nil _ _⟩
      case round =>
        obtain ⟨q, hq, rfl, hb, hO⟩ := hrel
        by_cases hqk : q < k + 1
        · have hqi : (q : Int) ≤ (k : Int) := by omega
          have HQ : Hid ((potsL gs ts d).take (q + 1) = (potsL gs ts d).take q ++ [gs.map (cellK ts d q)]) := take_at (hat.out q (by omega))
          obtain ⟨vs, hO⟩ := hO
          obtain ⟨wo, hwo⟩ : ∃ wo : World, wo = wr := ⟨_, rfl⟩
          subst hwo
          have hRo := hR.bel (hb1.trans hb)
          have hTo := hT.bel (hb1.trans hb)
          have hkl : Hid (((potsL gs ts d).take q).length = q) := by show _ = _; rw [List.length_take, HLEN.out]; omega
          have hO1 := hO.own
          rw [hkl.out] at hO1
          go_wp2
          go_loopw [12, 13, 14, 15, 16] (fun u i _ _ _ wr => ∃ j : Nat, j ≤ n ∧ i = .int .i64 j ∧ Bel wo wr ∧ Own2 46 wo.heap.size wr u ((gs.take j).map (cellK ts d q))) (fun _ i _ _ _ _ => n - (intOf i).toNat)
          case atStart => exact ⟨0, Nat.zero_le _, rfl, Bel.refl _, Own2.nil _ _ _⟩
          case round =>
            obtain ⟨j, hj, rfl, hb2, ho⟩ := hrel
            by_cases hjn : j < n
            · obtain ⟨b, o, s, mm, rfl, hbl, hg, hc1, hc2⟩ := (hRo.bel hb2).at_ (k := j) (by rw [Hn.out]; exact hjn)
              obtain ⟨⟨s1, s2⟩, x1, x2⟩ := HF.out (s, mm) (List.mem_of_getElem? hg)
              have HT := Lib.hid (take_at hg)
              simp only at s1 s2 x1 x2
              have hjn' : (j : Int) < (n : Int) := by omega
              clear hg
              generalize hX : (gs.take j).map (cellK ts d q) = X at ho
              have hXl : X.length ≤ 6 := by rw [← hX, List.length_map]; have := List.length_take_le j gs; omega
              have HX := Lib.hid hX; clear hX
              have HX1 := Lib.hid (show X.length + 1 ≤ maxLen by unfold maxLen; omega)
              have HX2 := Lib.hid (show (X.length + 1) * 16 ≤ 140737488355328 by omega)
              have held : ∀ w', Bel wr w' → w'.cell? ⟨b, o + j * 2, none⟩ = some (.int .i64 s) ∧ w'.cell? ⟨b, o + j * 2 + 1, none⟩ = some (.int .i64 mm) := fun w' h => ⟨by rw [h.use.1 _ _ hbl]; exact hc1, by rw [h.use.1 _ _ hbl]; exact hc2⟩
              have Held := Lib.hid held
              have hTw := hTo.bel hb2
              obtain ⟨wp, hwp⟩ : ∃ wp : World, wp = wr := ⟨_, rfl⟩
              subst hwp
              clear held
              go_wp2
              clear hc1 hc2
              go_loopw [14, 15, 16] (fun a e i wr => ∃ x : Nat, x ≤ q ∧ i = .int .i64 x ∧ a = .int .i64 (stf d (ts.take x) s mm) ∧ e = .int .i64 (d ^ x) ∧ Bel wp wr) (fun _ _ i _ => q - (intOf i).toNat)
              case atStart => exact ⟨0, Nat.zero_le _, rfl, by simp [stf], by simp, Bel.refl _⟩
              case round =>
                obtain ⟨x, hx, rfl, rfl, rfl, hb3⟩ := hrel
                have hbd := stf_le (k := x) (s := s) (x := mm) d1 d2 (by omega) (by omega) (by omega) (fun t h => (HTS.out t h).1) (by omega) (by rw [Hm.out]; omega)
                obtain ⟨hc1, hc2⟩ := Held.out wr hb3
                by_cases hxq : x < q
                · obtain ⟨b', o', t, rfl, hbl', hgt, hct⟩ := (hTw.bel hb3).at_ (k := x) (by rw [Hm.out]; omega)
                  obtain ⟨t1, t2⟩ := HTS.out t (List.mem_of_getElem? hgt)
                  obtain ⟨k1, k2⟩ := skn_bd (s := s) (t := t) (d := d) (by omega) t1 d1
                  have hst := mul_bd (A := 20) (B := 100) (by omega : 0 ≤ s) s2 t1 t2
                  have E1 : Hid (stf d (ts.take (x + 1)) s mm = stf d (ts.take x) s mm * (d - skn s t d)) := by show _ = _; rw [take_at hgt, stf_snoc]
                  have E2 := Lib.hid (Int.pow_succ d x)
                  obtain ⟨y1, -, y2, y3, -, y4⟩ := hbd
                  have y2' := y2 (by omega)
                  have y4' := y4 (by omega)
                  clear y2 y4
                  have hxq' : (x : Int) < (q : Int) := by omega
                  have hxm' : (x : Int) < (k : Int) := by omega
                  have held2 : ∀ w', Bel wr w' → w'.cell? ⟨b, o + j * 2, none⟩ = some (.int .i64 s) ∧ w'.cell? ⟨b', o' + x, none⟩ = some (.int .i64 t) := fun w' h => ⟨(Held.out w' (hb3.trans h)).1, by rw [h.use.1 _ _ hbl']; exact hct⟩
                  have Held2 := Lib.hid held2
                  generalize stf d (ts.take x) s mm = P at *
                  generalize d ^ x = D at *
                  obtain ⟨z1, z2⟩ := mul_bd (A := 40000) (B := 20) (a := P) (b := d - skn s t d) y1 y2' (by omega) (by omega)
                  obtain ⟨z3, z4⟩ := mul_bd (A := 400) (B := 20) (Int.le_of_lt y3) y4' (by omega : 0 ≤ d) d2
                  have V1 : Hid (IntKind.i64.wrap (d - skn s t d) = d - skn s t d) := IntWalk.i64_in _ (by omega)
                  have V2 : Hid (IntKind.i64.wrap (P * (d - skn s t d)) = P * (d - skn s t d)) := IntWalk.i64_in _ (by omega)
                  clear hct hc1 hc2
                  obtain ⟨wq, hwq⟩ : ∃ wq : World, wq = wr := ⟨_, rfl⟩
                  subst hwq
                  go_wp2
                  obtain ⟨hf1, hf2⟩ := Held2.out wq (Bel.refl _)
                  go_region_held3 (fun w' => Bel wq w' ∧ w'.cell? ⟨b, o + j * 2, none⟩ = some (.int .i64 s) ∧ w'.cell? ⟨b', o' + x, none⟩ = some (.int .i64 t)) (exact ⟨by (repeat (first | exact Bel.refl _ | assumption | refine Bel.drew ?_ | refine Bel.drewN ?_ _ | refine Bel.alloc ?_ _ | refine Bel.setCell ?_ (by first | omega | (simp; done) | (simp; omega) | (simp at *; omega)) _ | refine Bel.trans ?_ (by assumption))), Held2.out _ (by (repeat (first | exact Bel.refl _ | assumption | refine Bel.drew ?_ | refine Bel.drewN ?_ _ | refine Bel.alloc ?_ _ | refine Bel.setCell ?_ (by first | omega | (simp; done) | (simp; omega) | (simp at *; omega)) _ | refine Bel.trans ?_ (by assumption))))⟩) ((go_at_call 37; refine (sinks_any _ _ _ _ (by omega) (by omega)).mono ?_; rintro e w' ⟨rfl, rfl⟩))
                  go_wp2
                  go_roundw
                  case rel => exact ⟨x + 1, by omega, by go_num, by rw [E1.out, V1.out, V2.out], by rw [E2.out], by (repeat (first | exact Bel.refl _ | assumption | refine Bel.drew ?_ | refine Bel.drewN ?_ _ | refine Bel.alloc ?_ _ | refine Bel.setCell ?_ (by first | omega | (simp; done) | (simp; omega) | (simp at *; omega)) _ | refine Bel.trans ?_ (by assumption)))⟩
                  case measure => simp [intOf]; omega
                · obtain rfl : x = q := by omega
                  obtain ⟨y1, y2, y3, y4, y5, y6⟩ := hbd
                  have hb23 := hb2.trans hb3
                  have ho3 := ho.bel hb3
                  have hw3 : Bel w1 wr := hb.trans hb23
                  have hsz3 := hb23.size
                  by_cases hxk : x < k
                  · obtain ⟨b', o', t, rfl, hbl', hgt, hct⟩ := (hTw.bel hb3).at_ (k := x) (by rw [Hm.out]; omega)
                    obtain ⟨t1, t2⟩ := HTS.out t (List.mem_of_getElem? hgt)
                    obtain ⟨k1, k2⟩ := skn_bd (s := s) (t := t) (d := d) (by omega) t1 d1
                    have hst := mul_bd (A := 20) (B := 100) (by omega : 0 ≤ s) s2 t1 t2
                    have E1 := Lib.hid (cellK_some (d := d) (s := s) (x := mm) hgt)
                    have y2' := y3 (by omega)
                    have y4' := y6 (by omega)
                    have hxm' : (x : Int) < (k : Int) := by omega
                    have held2 : ∀ w', Bel wr w' → w'.cell? ⟨b, o + j * 2, none⟩ = some (.int .i64 s) ∧ w'.cell? ⟨b', o' + x, none⟩ = some (.int .i64 t) := fun w' h => ⟨(Held.out w' (hb3.trans h)).1, by rw [h.use.1 _ _ hbl']; exact hct⟩
                    have Held2 := Lib.hid held2
                    clear y2 y3 y5 y6 held2 hct hc1 hc2 hgt
                    generalize stf d (ts.take x) s mm = P at *
                    generalize d ^ x = D at *
                    obtain ⟨z1, z2⟩ := mul_bd (A := 40000) (B := 20) (a := P) (b := skn s t d) y1 y2' k1 (by omega)
                    obtain ⟨z3, z4⟩ := mul_bd (A := 400) (B := 20) (Int.le_of_lt y4) y4' (by omega : 0 ≤ d) d2
                    have z5 : 0 < D * d := Int.mul_pos y4 (by omega)
                    obtain ⟨wq, hwq⟩ : ∃ wq : World, wq = wr := ⟨_, rfl⟩
                    subst hwq
                    go_wp2
                    obtain ⟨hf1, hf2⟩ := Held2.out wq (Bel.refl _)
                    go_region_held3 (fun w' => Bel wq w' ∧ w'.cell? ⟨b, o + j * 2, none⟩ = some (.int .i64 s) ∧ w'.cell? ⟨b', o' + x, none⟩ = some (.int .i64 t)) (exact ⟨by (repeat (first | exact Bel.refl _ | assumption | refine Bel.drew ?_ | refine Bel.drewN ?_ _ | refine Bel.alloc ?_ _ | refine Bel.setCell ?_ (by first | omega | (simp; done) | (simp; omega) | (simp at *; omega)) _ | refine Bel.trans ?_ (by assumption))), Held2.out _ (by (repeat (first | exact Bel.refl _ | assumption | refine Bel.drew ?_ | refine Bel.drewN ?_ _ | refine Bel.alloc ?_ _ | refine Bel.setCell ?_ (by first | omega | (simp; done) | (simp; omega) | (simp at *; omega)) _ | refine Bel.trans ?_ (by assumption))))⟩) ((go_at_call 37; refine (sinks_any _ _ _ _ (by omega) (by omega)).mono ?_; rintro e w' ⟨rfl, rfl⟩))
                    go_wp2_with fail
                    refine (ratio_any _ _ _ z1 z5 (by omega) (by omega)).mono ?_
                    rintro e w2 ⟨rfl, hb4⟩
                    have hw4 : Bel wo w2 := hb23.trans (((Bel.refl wq).drew).trans hb4)
                    have ho4 := ho3.bel (w' := w2) (((Bel.refl wq).drew).trans hb4)
                    have hsz4 := hw4.size
                    go_wp2_with (at_builtin; go_loud (refine wpList_append_own_at _ rfl (.tmp 101) (.tmp 105) 47 rfl wo.heap.size 46 i1 _ 2 16 Try.underlying47 hj' hy0 hy1 hy2 rfl (by decide) _ X.length (cel2 X) rfl (ho4.alloc _) ⟨w2.heap.size, 0, none⟩ 1 1 [.int .i64 (num (P * skn s t d) (D * d)), .int .i64 (den (P * skn s t d) (D * d))] rfl rfl (new2 _ _ _ _) (one2 _ _) HX1.out HX2.out (by simp; omega) ?_); intro v1 w3 hown3 hgr3 _ hat3; have hb5 : Bel wo w3 := Bel.own (hw4.alloc _) (ho4.alloc _) hgr3 (Nat.le_refl _); have P1 := Own2.snoc hown3; clear hown3 hgr3 hat3 ho4)
                    go_roundw
                    case rel => exact ⟨j + 1, by omega, by go_num, hb5, by rw [HT.out, List.map_append, HX.out, List.map_cons, List.map_nil, E1.out]; exact P1⟩
                    case measure => simp [intOf]; omega
                  · obtain rfl : x = k := by omega
                    have E1 := Lib.hid (cellK_none (d := d) (s := s) (x := mm) (show ts[x]? = none from List.getElem?_eq_none (by rw [Hm.out]; omega)))
                    clear y3 y6 hc1 hc2
                    generalize stf d (ts.take x) s mm = P at *
                    generalize d ^ x = D at *
                    go_wp2_with fail
                    refine (ratio_any _ _ _ y1 y4 (by omega) (by omega)).mono ?_
                    rintro e w2 ⟨rfl, hb4⟩
                    have hw4 : Bel wo w2 := hb23.trans hb4
                    have ho4 := ho3.bel (w' := w2) hb4
                    have hsz4 := hw4.size
                    go_wp2_with (at_builtin; go_loud (refine wpList_append_own_at _ rfl (.tmp 101) (.tmp 105) 47 rfl wo.heap.size 46 i1 _ 2 16 Try.underlying47 hj' hy0 hy1 hy2 rfl (by decide) _ X.length (cel2 X) rfl (ho4.alloc _) ⟨w2.heap.size, 0, none⟩ 1 1 [.int .i64 (num P D), .int .i64 (den P D)] rfl rfl (new2 _ _ _ _) (one2 _ _) HX1.out HX2.out (by simp; omega) ?_); intro v1 w3 hown3 hgr3 _ hat3; have hb5 : Bel wo w3 := Bel.own (hw4.alloc _) (ho4.alloc _) hgr3 (Nat.le_refl _); have P1 := Own2.snoc hown3; clear hown3 hgr3 hat3 ho4)
                    go_roundw
                    case rel => exact ⟨j + 1, by omega, by go_num, hb5, by rw [HT.out, List.map_append, HX.out, List.map_cons, List.map_nil, E1.out]; exact P1⟩
                    case measure => simp [intOf]; omega
            · obtain rfl : j = n := by omega
              have ht : Hid (gs.take j = gs) := List.take_of_length_le (by rw [Hn.out]; omega)
              rw [ht.out] at ho
              obtain ⟨A1, n1, c1, rfl, hn1⟩ := ho.form
              rw [List.length_map, Hn.out] at hn1
              subst n1
              have hf1 := fun k hk => World.ownsRow.lt ho k hk
              have hp1 := ho.prs
              have hl1 : Hid ((gs.map (cellK ts d q)).length = j) := by show _ = _; rw [List.length_map, Hn.out]
              have HF1 := Lib.hid hf1
              have hO2 := hO.bel hb2
              have hO21 := hO2.own
              rw [hkl.out] at hO21
              have hX1 := Lib.hid (show q + 1 ≤ maxLen by unfold maxLen; omega)
              have hX2 := Lib.hid (show (q + 1) * 24 ≤ 140737488355328 by omega)
              have hs2 := hb2.size
              have hsw := hb.size
              clear hf1 ho ht
              go_wp2_with (at_builtin; go_loud (refine wpList_append_lies _ rfl (.tmp 107) (.tmp 109) 40 rfl w1.heap.size 47 i0 _ 1 24 Try.underlying40 hi hz0 hz1 hz2 rfl (by decide) u10 q vs (by rfl) (World.ownsRow.alloc hO21 _) ⟨wr.heap.size, 0, none⟩ 1 1 [.slice A1 j c1] (by rfl) rfl (newS _ _ _ _ rfl) (oneS _ _ _) (by omega) hX1.out hX2.out (by simp <;> omega) _ rfl ?_); intro g3 cap3 w4 hown3 hgr3 hat3 hlt3)
              have hO4 := OwnTV.snoc (g := g3) (hO2.bel ((Bel.refl wr).alloc _)) (hp1.bel ((Bel.refl wr).alloc _)) hl1.out (by unfold maxLen; omega) (fun b o hA => by
                  subst hA
                  obtain ⟨k1, k2⟩ := HF1.out b rfl
                  refine ⟨by simp <;> omega, fun e => ?_, by omega⟩
                  have h1 := (World.ownsRow.lt hO1 _ e).2
                  omega) (by rw [hkl.out]; exact hown3) hgr3 (by rw [hkl.out] at *; simpa using hat3)
              have hB4 := grown_own (w := w1) ((hb.trans hb2).alloc _) hO21 (Nat.le_refl _) hgr3
              rw [hkl.out] at hO4
              clear hown3 hgr3 hat3 hlt3
              go_roundw
              case rel => exact ⟨q + 1, by omega, by go_num, hB4, by rw [HQ.out]; exact hO4⟩
              case measure => simp [intOf]; omega
        · obtain rfl : q = k + 1 := by omega
          have hqi : ¬ (((k + 1 : Nat) : Int) ≤ (k : Int)) := by omega
          have ht : Hid ((potsL gs ts d).take (k + 1) = potsL gs ts d) := List.take_of_length_le (by rw [HLEN.out]; omega)
          rw [ht.out] at hO
          go_wp2
          go_ret2
          exact ⟨_, rfl, hO.low hb1.size, hb1.trans hb⟩
end Go.Proofs.Ytmbhhooiaonhjaa
