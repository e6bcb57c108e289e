/- KeepWeighings and KeptWeighings. -/
import Derived.Test.YtmckoehkekkldaaE
import Derived.Outline
namespace Go.Proofs.Ytmckoehkekkldaa
open Go.RowKit

set_option maxRecDepth 100000 in
set_option maxHeartbeats 4000000 in
theorem keepWeighings_any (A : Option Addr) (n c : Nat) (Z : List WgZ) (w : World) (hR : ArgP w A n c Z) :
    Calls Try.prog 16 #[.slice A n c] w (KeptP w Z) := by
  obtain ⟨i0, hi, hz0, hz1, hz2⟩ := info_parts info2W
  obtain ⟨hR, hc, hn, h0, hreach⟩ := hR
  have hmax : c * 48 ≤ 140737488351232 := hreach
  have HC := Lib.hid hc
  have hcl : (c : Int) ≤ 9223372036854775807 := by omega
  clear hc hreach
  rcases A with _ | ⟨a1, a2, a3⟩
  · have hc0 := h0 rfl
    subst hc0
    obtain rfl : n = 0 := by omega
    have HZ := Lib.hid (List.eq_nil_of_length_eq_zero HC.out)
    go_enter Try.func16, Try.ntmps16
    go_wp2
    go_loopw [3, 4] (fun v i wr => v = .slice none 0 0 ∧ i = .int .i64 0 ∧ Bel w wr) (fun _ _ _ => 0)
    case atStart => exact ⟨rfl, rfl, Bel.refl _⟩
    case round =>
      obtain ⟨rfl, rfl, hb⟩ := hrel
      go_wp2
      go_ret
      exact ⟨none, 0, 0, rfl, HC.out.symm, hb, by rw [HZ.out]; exact .inl rfl⟩
  · clear h0
    go_enter Try.func16, Try.ntmps16
    go_wp2
    go_loopw [3, 4] (fun v i wr => ∃ k : Nat, k ≤ c ∧ i = .int .i64 k ∧ Bel w wr ∧ OwnP w.heap.size wr v ((Z.take k).map fullW)) (fun _ i _ => c - (intOf i).toNat)
    case atStart => exact ⟨0, Nat.zero_le _, rfl, Bel.refl _, OwnP.nil _ _⟩
    case round =>
      obtain ⟨k, hk, rfl, hb, hO⟩ := hrel
      by_cases hlt : k < c
      · obtain ⟨b, o, xs, m, ys, q, A1, c1, A2, c2, hA, hbl, hg, hc1, hc2, ⟨hI, hl', hm', hnn, hre⟩, ⟨hJ, hl2, hm2, hnn2, hre2⟩⟩ := hR.at_ (k := k) (by rw [HC.out]; exact hlt)
        injection hA with hA
        injection hA with e1 e2 e3
        subst e1 e2 e3
        obtain ⟨vs, hO⟩ := hO
        have hlen : ((Z.take k).map fullW).length = k := by rw [List.length_map, List.length_take, HC.out]; omega
        have hO1 := hO.own
        rw [hlen] at hO1
        have hX1 := Lib.hid (show k + 1 ≤ maxLen by unfold maxLen; omega)
        have hX2 := Lib.hid (show (k + 1) * 48 ≤ 140737488355328 by omega)
        have hbase := hb.size
        have HG := Lib.hid hg
        have HL := Lib.hid hl'
        have HL2 := Lib.hid hl2
        have held : ∀ w', Bel w w' → w'.cell? ⟨a1, a2 + k * 2, none⟩ = some (.slice A1 m c1) ∧ w'.cell? ⟨a1, a2 + k * 2 + 1, none⟩ = some (.slice A2 q c2) := fun w' h => ⟨by rw [h.use.1 _ _ hbl]; exact hc1, by rw [h.use.1 _ _ hbl]; exact hc2⟩
        have Held := Lib.hid held
        obtain ⟨wo, hwo⟩ : ∃ wo : World, wo = wr := ⟨_, rfl⟩
        subst hwo
        clear hg hl' hl2 held hc1 hc2
        go_wp2
        go_region_held_law (fun w' => Bel w w' ∧ w'.cell? ⟨a1, a2 + k * 2, none⟩ = some (.slice A1 m c1) ∧ w'.cell? ⟨a1, a2 + k * 2 + 1, none⟩ = some (.slice A2 q c2)) (first | (have hB9 := grown_own (w := w) (((hb.trans hb01).trans hb12).alloc _) hO1 (Nat.le_refl _) hgr3; exact ⟨hB9, Held.out _ hB9⟩) | exact ⟨by (repeat (first | exact Bel.refl _ | assumption | refine Bel.drew ?_ | refine Bel.drewN ?_ _ | refine Bel.alloc ?_ _ | refine Bel.setCell ?_ (by first | omega | (simp; done) | (simp; omega) | (simp at *; omega)) _ | refine Bel.trans ?_ (by assumption))), Held.out _ (by (repeat (first | exact Bel.refl _ | assumption | refine Bel.drew ?_ | refine Bel.drewN ?_ _ | refine Bel.alloc ?_ _ | refine Bel.setCell ?_ (by first | omega | (simp; done) | (simp; omega) | (simp at *; omega)) _ | refine Bel.trans ?_ (by assumption))))⟩)
          (first | (go_at_call_of 19 (Value.slice A1 m c1); refine (keepInts_any A1 m c1 xs _ (hI.bel (by (repeat (first | exact Bel.refl _ | assumption | refine Bel.drew ?_ | refine Bel.drewN ?_ _ | refine Bel.alloc ?_ _ | refine Bel.setCell ?_ (by first | omega | (simp; done) | (simp; omega) | (simp at *; omega)) _ | refine Bel.trans ?_ (by assumption))))) HL.out hm' hnn hre).mono ?_; rintro e w1 ⟨B1, n1, d1, rfl, hn1, hb1, hI1, hf1⟩; have HN1 := Lib.hid hn1; clear hn1; have hb01 : Bel wo w1 := (by (repeat (first | exact Bel.refl _ | assumption | refine Bel.drew ?_ | refine Bel.drewN ?_ _ | refine Bel.alloc ?_ _ | refine Bel.setCell ?_ (by first | omega | (simp; done) | (simp; omega) | (simp at *; omega)) _ | refine Bel.trans ?_ (by assumption)))); have hs1 := hb01.size) | (go_at_call_of 19 (Value.slice A2 q c2); refine (keepInts_any A2 q c2 ys _ (hJ.bel (by (repeat (first | exact Bel.refl _ | assumption | refine Bel.drew ?_ | refine Bel.drewN ?_ _ | refine Bel.alloc ?_ _ | refine Bel.setCell ?_ (by first | omega | (simp; done) | (simp; omega) | (simp at *; omega)) _ | refine Bel.trans ?_ (by assumption))))) HL2.out hm2 hnn2 hre2).mono ?_; rintro e w2 ⟨B2, n2, d2, rfl, hn2, hb2, hI2, hf2⟩; have HN2 := Lib.hid hn2; clear hn2; have hb12 : Bel w1 w2 := (by (repeat (first | exact Bel.refl _ | assumption | refine Bel.drew ?_ | refine Bel.drewN ?_ _ | refine Bel.alloc ?_ _ | refine Bel.setCell ?_ (by first | omega | (simp; done) | (simp; omega) | (simp at *; omega)) _ | refine Bel.trans ?_ (by assumption)))); have hs2 := hb12.size) | (refine step_append_lies _ rfl (.tmp 15) (.tmp 29) 22 rfl w.heap.size 50 i0 _ 2 48 Try.underlying22 hi hz0 hz1 hz2 rfl (by decide) u3 k vs (by rfl) ((ownsRow_bel hO1 (by (repeat (first | exact Bel.refl _ | assumption | refine Bel.drew ?_ | refine Bel.drewN ?_ _ | refine Bel.alloc ?_ _ | refine Bel.setCell ?_ (by first | omega | (simp; done) | (simp; omega) | (simp at *; omega)) _ | refine Bel.trans ?_ (by assumption))))).alloc _) _ 1 1 [.slice B1 n1 d1, .slice B2 n2 d2] (by rfl) rfl (new2 _ _ _ _ _ rfl) (one2 _ _ _ _ _ _) (by omega) hX1.out hX2.out (Nat.le_trans hbase (by simp <;> omega)) _ rfl ?_; intro g3 cap3 w3 hown3 hgr3 hat3 hlt3))
        all_goals
          have hO3 := OwnPV.snoc (g := g3) ((hO.bel (hb01.trans hb12)).bel ((Bel.refl w2).alloc _)) ((hI1.bel hb12).bel ((Bel.refl w2).alloc _)) HN1.out.symm (by rw [HN1.out, HL.out]; exact (reachN_le hre (by omega)).2)
            (fun b o hA => ⟨by have := (hf1 b o hA).2; simp <;> omega, fun e => by have h1 := (World.ownsRow.lt hO1 b e).2; have h2 := (hf1 b o hA).1; first | omega | (simp at h2; omega), by have h2 := (hf1 b o hA).1; first | omega | (simp at h2; omega)⟩)
            (hI2.bel ((Bel.refl w2).alloc _)) HN2.out.symm (by rw [HN2.out, HL2.out]; exact (reachN_le hre2 (by omega)).2)
            (fun b o hA => ⟨by have := (hf2 b o hA).2; simp <;> omega, fun e => by have h1 := (World.ownsRow.lt hO1 b e).2; have h2 := (hf2 b o hA).1; first | omega | (simp at h2; omega), by have h2 := (hf2 b o hA).1; first | omega | (simp at h2; omega)⟩) (by rw [hlen]; exact hown3) hgr3 (by simpa using hat3)
          have hB3 := grown_own (w := w) (((hb.trans hb01).trans hb12).alloc _) hO1 (Nat.le_refl _) hgr3
          rw [hlen] at hO3
          have HS : Hid (((Z.take (k + 1)).map fullW) = (Z.take k).map fullW ++ [(xs, ys)]) := by show _ = _; rw [take_at HG.out, List.map_append]; rfl
          clear hown3 hgr3 hat3 hlt3 hI1 hf1 hb1 hI2 hf2 hb2 hO hO1
          go_wp2
          go_roundw
          case rel => exact ⟨k + 1, by omega, by go_num, hB3, by rw [HS.out]; exact hO3⟩
          case measure => simp [intOf]; omega
      · obtain rfl : k = c := by omega
        have ht : Z.take k = Z := List.take_of_length_le (by rw [HC.out]; omega)
        rw [ht] at hO
        obtain ⟨A', n', c', rfl, hn', hI⟩ := hO.form
        rw [List.length_map] at hn'
        have HN := Lib.hid hn'
        clear hn' hO ht
        go_wp2
        go_ret
        exact ⟨A', n', c', rfl, HN.out, hb, hI⟩

set_option maxRecDepth 100000 in
set_option maxHeartbeats 4000000 in
theorem keptWeighings_any (A B : Option Addr) (n c n' c' : Nat) (Z : List WgZ) (w : World) (hA : Plan 0 w A (Z.map fullW)) (hB : ArgP w B n' c' Z) (hc : n = Z.length) :
    Calls Try.prog 18 #[.slice A n c, .slice B n' c'] w fun e w' => e = .returned (.bool true) ∧ Bel w w' := by
  obtain ⟨hB, hc', _hn, h0, hreach⟩ := hB
  have hmax : c' * 48 ≤ 140737488351232 := hreach
  obtain rfl : n = c' := by omega
  have Hn := Lib.hid hc'; clear hc hc' hreach
  have h63 : (n : Int) ≤ 9223372036854775807 := by omega
  clear hmax
  rcases B with _ | ⟨b1, b2, b3⟩
  · have hn0 := h0 rfl
    subst hn0
    obtain rfl : n' = 0 := by omega
    go_enter Try.func18, Try.ntmps18
    go_wp2
    go_loopw [5] (fun i wr => i = .int .i64 0 ∧ Bel w wr) (fun _ _ => 0)
    case atStart => exact ⟨rfl, Bel.refl _⟩
    case round =>
      obtain ⟨rfl, hb⟩ := hrel
      go_wp2
      go_ret
      exact ⟨rfl, hb⟩
  · clear h0
    go_enter Try.func18, Try.ntmps18
    go_wp2
    go_loopw [5] (fun i wr => ∃ k : Nat, k ≤ n ∧ i = .int .i64 k ∧ Bel w wr) (fun i _ => n - (intOf i).toNat)
    case atStart => exact ⟨0, Nat.zero_le _, rfl, Bel.refl _⟩
    case round =>
      obtain ⟨k, hk, rfl, hb⟩ := hrel
      by_cases hlt : k < n
      · obtain ⟨b, o, xs, m, ys, q, B1, c1, B2, c2, hB', hbl', hg', hc1', hc2', ⟨hI, hl', hm', hnn, hre⟩, ⟨hJ, hl2, hm2, hnn2, hre2⟩⟩ := hB.at_ (k := k) (by rw [Hn.out]; exact hlt)
        obtain ⟨a, p, xs', ys', A1, n1, d1, A2, n2, d2, rfl, hbl, hg, hc1, hc2, hI', hm1, hmm, hJ', hm3, hmm3⟩ := hA.at_ (k := k) (by rw [List.length_map, Hn.out]; exact hlt)
        rw [List.getElem?_map, hg'] at hg
        simp only [Option.map_some, fullW, Option.some.injEq, Prod.mk.injEq] at hg
        obtain ⟨rfl, rfl⟩ := hg
        injection hB' with hB'
        injection hB' with e1 e2 e3
        subst e1 e2 e3
        have hkn : (k : Int) < (n : Int) := by omega
        have hk0 : (0 : Int) ≤ (k : Int) := by omega
        have held : ∀ w', Bel w w' → (w'.cell? ⟨b1, b2 + k * 2, none⟩ = some (.slice B1 m c1) ∧ w'.cell? ⟨b1, b2 + k * 2 + 1, none⟩ = some (.slice B2 q c2)) ∧ w'.cell? ⟨a, p + k * 2, none⟩ = some (.slice A1 n1 d1) ∧ w'.cell? ⟨a, p + k * 2 + 1, none⟩ = some (.slice A2 n2 d2) :=
          fun w' h => ⟨⟨by rw [h.use.1 _ _ hbl']; exact hc1', by rw [h.use.1 _ _ hbl']; exact hc2'⟩, by rw [h.use.1 _ _ hbl]; exact hc1, by rw [h.use.1 _ _ hbl]; exact hc2⟩
        have Held := Lib.hid held
        have HM1 := Lib.hid hm1; have HL := Lib.hid hl'
        have HM3 := Lib.hid hm3; have HL2 := Lib.hid hl2
        have hc9 : c1 ≤ 140737488351232 := (reachN_le hre (by omega)).1
        have hc8 : c2 ≤ 140737488351232 := (reachN_le hre2 (by omega)).1
        clear hg' held hc1 hc1' hm1 hl' hc2 hc2' hm3 hl2
        obtain ⟨wo, hwo⟩ : ∃ wo : World, wo = wr := ⟨_, rfl⟩
        subst hwo
        go_wp2
        go_region_held3 (fun w' => Bel w w' ∧ (w'.cell? ⟨b1, b2 + k * 2, none⟩ = some (.slice B1 m c1) ∧ w'.cell? ⟨b1, b2 + k * 2 + 1, none⟩ = some (.slice B2 q c2)) ∧ w'.cell? ⟨a, p + k * 2, none⟩ = some (.slice A1 n1 d1) ∧ w'.cell? ⟨a, p + k * 2 + 1, none⟩ = some (.slice A2 n2 d2)) (exact ⟨by (repeat (first | exact Bel.refl _ | assumption | refine Bel.drew ?_ | refine Bel.drewN ?_ _ | refine Bel.alloc ?_ _ | refine Bel.setCell ?_ (by first | omega | (simp; done) | (simp; omega) | (simp at *; omega)) _ | refine Bel.trans ?_ (by assumption))), Held.out _ (by (repeat (first | exact Bel.refl _ | assumption | refine Bel.drew ?_ | refine Bel.drewN ?_ _ | refine Bel.alloc ?_ _ | refine Bel.setCell ?_ (by first | omega | (simp; done) | (simp; omega) | (simp at *; omega)) _ | refine Bel.trans ?_ (by assumption))))⟩)
          (first | (go_at_call_of 21 (Value.slice B1 m c1); refine (keptInts_any A1 B1 n1 d1 m c1 xs _ (hI'.bel (by (repeat (first | exact Bel.refl _ | assumption | refine Bel.drew ?_ | refine Bel.drewN ?_ _ | refine Bel.alloc ?_ _ | refine Bel.setCell ?_ (by first | omega | (simp; done) | (simp; omega) | (simp at *; omega)) _ | refine Bel.trans ?_ (by assumption))))) (hI.bel (by (repeat (first | exact Bel.refl _ | assumption | refine Bel.drew ?_ | refine Bel.drewN ?_ _ | refine Bel.alloc ?_ _ | refine Bel.setCell ?_ (by first | omega | (simp; done) | (simp; omega) | (simp at *; omega)) _ | refine Bel.trans ?_ (by assumption))))) HM1.out HL.out hm' hnn hc9).mono ?_; rintro e w1 ⟨rfl, hb1⟩) | (go_at_call_of 21 (Value.slice B2 q c2); refine (keptInts_any A2 B2 n2 d2 q c2 ys _ (hJ'.bel (by (repeat (first | exact Bel.refl _ | assumption | refine Bel.drew ?_ | refine Bel.drewN ?_ _ | refine Bel.alloc ?_ _ | refine Bel.setCell ?_ (by first | omega | (simp; done) | (simp; omega) | (simp at *; omega)) _ | refine Bel.trans ?_ (by assumption))))) (hJ.bel (by (repeat (first | exact Bel.refl _ | assumption | refine Bel.drew ?_ | refine Bel.drewN ?_ _ | refine Bel.alloc ?_ _ | refine Bel.setCell ?_ (by first | omega | (simp; done) | (simp; omega) | (simp at *; omega)) _ | refine Bel.trans ?_ (by assumption))))) HM3.out HL2.out hm2 hnn2 hc8).mono ?_; rintro e w2 ⟨rfl, hb2⟩))
        all_goals
          go_wp2
          go_roundw
          case rel => exact ⟨k + 1, by omega, by go_num, by (repeat (first | exact Bel.refl _ | assumption | refine Bel.drew ?_ | refine Bel.drewN ?_ _ | refine Bel.alloc ?_ _ | refine Bel.setCell ?_ (by first | omega | (simp; done) | (simp; omega) | (simp at *; omega)) _ | refine Bel.trans ?_ (by assumption)))⟩
          case measure => simp [intOf]; omega
      · obtain rfl : k = n := by omega
        go_wp2
        go_ret
        exact ⟨rfl, hb⟩
end Go.Proofs.Ytmckoehkekkldaa
