/- KeepTable and KeptTable. -/
import Derived.Test.YtahkihifgafbnaaC
import Derived.Outline
namespace Go.Proofs.Ytahkihifgafbnaa
open Go.RowKit

set_option maxRecDepth 100000 in
set_option maxHeartbeats 4000000 in
theorem keepTable_any (A : Option Addr) (n c : Nat) (Z : List RowZ) (w : World) (hR : ArgT w A n c Z) :
    Calls Try.prog 17 #[.slice A n c] w (KeptT w Z) := by
  obtain ⟨i0, hi, hz0, hz1, hz2⟩ := info_parts info1S
  obtain ⟨hR, hc, hn, h0, hreach⟩ := hR
  have hmax : c * 24 ≤ 140737488351232 := hreach
  have HC := Lib.hid hc
  have hcl : (c : Int) ≤ 9223372036854775807 := by omega
  clear hc hreach
  rcases A with _ | ⟨a1, a2, a3⟩
  · have hc0 := h0 rfl
    subst hc0
    obtain rfl : n = 0 := by omega
    have HZ := Lib.hid (List.eq_nil_of_length_eq_zero HC.out)
    go_enter Try.func17, Try.ntmps17
    go_wp2
    go_loopw [3, 4] (fun v i wr => v = .slice none 0 0 ∧ i = .int .i64 0 ∧ Bel w wr) (fun _ _ _ => 0)
    case atStart => exact ⟨rfl, rfl, Bel.refl _⟩
    case round =>
      obtain ⟨rfl, rfl, hb⟩ := hrel
      go_wp2
      go_ret
      exact ⟨none, 0, 0, rfl, HC.out.symm, hb, by rw [HZ.out]; exact .inl rfl⟩
  · clear h0
    go_enter Try.func17, Try.ntmps17
    go_wp2
    go_loopw [3, 4] (fun v i wr => ∃ k : Nat, k ≤ c ∧ i = .int .i64 k ∧ Bel w wr ∧ OwnT w.heap.size wr v ((Z.take k).map Prod.fst)) (fun _ i _ => c - (intOf i).toNat)
    case atStart => exact ⟨0, Nat.zero_le _, rfl, Bel.refl _, OwnT.nil _ _⟩
    case round =>
      obtain ⟨k, hk, rfl, hb, hO⟩ := hrel
      by_cases hlt : k < c
      · obtain ⟨b, o, zs, m, A', c', hA, hbl, hg, hc1, hI, hl', hm', hnn, hre⟩ := hR.at_ (k := k) (by rw [HC.out]; exact hlt)
        injection hA with hA
        injection hA with e1 e2 e3
        subst e1 e2 e3
        obtain ⟨vs, hO⟩ := hO
        have hlen : ((Z.take k).map Prod.fst).length = k := by rw [List.length_map, List.length_take, HC.out]; omega
        have hO1 := hO.own
        rw [hlen] at hO1
        have hX1 := Lib.hid (show k + 1 ≤ maxLen by unfold maxLen; omega)
        have hX2 := Lib.hid (show (k + 1) * 24 ≤ 140737488355328 by omega)
        have hbase := hb.size
        have HS : Hid (((Z.take (k + 1)).map Prod.fst) = (Z.take k).map Prod.fst ++ [zs]) := by show _ = _; rw [take_at hg, List.map_append]; rfl
        have HL := Lib.hid hl'
        have HLEN := Lib.hid hlen
        have hc1' : wr.cell? ⟨a1, a2 + k, none⟩ = some (.slice A' m c') := by rw [hb.use.1 _ _ hbl]; exact hc1
        clear hg hl' hc1 hlen
        go_wp2_with fail
        refine (keepInts_any A' m c' zs _ (hI.bel hb) HL.out hm' hnn hre).mono ?_
        rintro e w1 ⟨A1, n1, c1, rfl, hn1, hb1, hI1, hf1⟩
        have HN1 := Lib.hid hn1
        have hs1 := hb1.size
        clear hn1 hc1'
        go_wp2_with (at_builtin; go_loud (refine wpList_append_lies _ rfl (.tmp 15) (.tmp 21) 22 rfl w.heap.size 26 i0 _ 1 24 Try.underlying22 hi hz0 hz1 hz2 rfl (by decide) u3 k vs (by rfl) ((ownsRow_bel hO1 hb1).alloc _) ⟨w1.heap.size, 0, none⟩ 1 1 [.slice A1 n1 c1] (by rfl) rfl (newS _ _ _ _ rfl) (oneS _ _ _) (by omega) hX1.out hX2.out (by simp <;> omega) _ rfl ?_); intro g3 cap3 w3 hown3 hgr3 hat3 hlt3)
        have hO3 := OwnTV.snoc (g := g3) ((hO.bel hb1).bel ((Bel.refl w1).alloc _)) (hI1.bel ((Bel.refl w1).alloc _)) HN1.out.symm (by rw [HN1.out, HL.out]; exact (reachN_le hre (by omega)).2) (fun b o hA => ⟨by have := (hf1 b o hA).2; simp <;> omega, fun e => by have h1 := (World.ownsRow.lt hO1 b e).2; have h2 := (hf1 b o hA).1; omega, by have h2 := (hf1 b o hA).1; omega⟩) (by rw [HLEN.out]; exact hown3) hgr3 (by rw [HLEN.out] at *; simpa using hat3)
        have hB3 := grown_own (w := w) ((hb.trans hb1).alloc _) hO1 (Nat.le_refl _) hgr3
        rw [HLEN.out] at hO3
        clear hown3 hgr3 hat3 hlt3 hI1 hf1 hb1 hO hO1
        go_roundw
        case rel => exact ⟨k + 1, by omega, by go_num, hB3, by rw [HS.out]; exact hO3⟩
        case measure => simp [intOf]; omega
      · obtain rfl : k = c := by omega
        have ht : Z.take k = Z := List.take_of_length_le (by rw [HC.out]; omega)
        rw [ht] at hO
        obtain ⟨A', n', c', rfl, hn', hI⟩ := hO.form
        rw [List.length_map] at hn'
        have HN := Lib.hid hn'
        clear hn' hO ht
        go_wp2
        go_ret
        exact ⟨A', n', c', rfl, HN.out, hb, hI⟩

set_option maxRecDepth 100000 in
set_option maxHeartbeats 4000000 in
theorem keptTable_any (A B : Option Addr) (n c n' c' : Nat) (Z : List RowZ) (w : World) (hA : Tab 0 w A (Z.map Prod.fst)) (hB : ArgT w B n' c' Z) (hc : n = Z.length) :
    Calls Try.prog 19 #[.slice A n c, .slice B n' c'] w fun e w' => e = .returned (.bool true) ∧ Bel w w' := by
  obtain ⟨hB, hc', _hn, h0, hreach⟩ := hB
  have hmax : c' * 24 ≤ 140737488351232 := hreach
  obtain rfl : n = c' := by omega
  have Hn := Lib.hid hc'; clear hc hc' hreach
  have h63 : (n : Int) ≤ 9223372036854775807 := by omega
  clear hmax
  rcases B with _ | ⟨b1, b2, b3⟩
  · have hn0 := h0 rfl
    subst hn0
    obtain rfl : n' = 0 := by omega
    go_enter Try.func19, Try.ntmps19
    go_wp2
    go_loopw [5] (fun i wr => i = .int .i64 0 ∧ Bel w wr) (fun _ _ => 0)
    case atStart => exact ⟨rfl, Bel.refl _⟩
    case round =>
      obtain ⟨rfl, hb⟩ := hrel
      go_wp2
      go_ret
      exact ⟨rfl, hb⟩
  · clear h0
    go_enter Try.func19, Try.ntmps19
    go_wp2
    go_loopw [5] (fun i wr => ∃ k : Nat, k ≤ n ∧ i = .int .i64 k ∧ Bel w wr) (fun i _ => n - (intOf i).toNat)
    case atStart => exact ⟨0, Nat.zero_le _, rfl, Bel.refl _⟩
    case round =>
      obtain ⟨k, hk, rfl, hb⟩ := hrel
      by_cases hlt : k < n
      · obtain ⟨b, o, zs, m, B', c', hB', hbl', hg', hc1', hI', hl', hm', hnn, hre⟩ := hB.at_ (k := k) (by rw [Hn.out]; exact hlt)
        obtain ⟨a, p, ms, A', m1, c1, rfl, hbl, hg, hc1, hI, hm1, hmm⟩ := hA.at_ (k := k) (by rw [List.length_map, Hn.out]; exact hlt)
        rw [List.getElem?_map, hg'] at hg
        simp only [Option.map_some, Option.some.injEq] at hg
        subst hg
        injection hB' with hB'
        injection hB' with e1 e2 e3
        subst e1 e2 e3
        have hkn : (k : Int) < (n : Int) := by omega
        have hk0 : (0 : Int) ≤ (k : Int) := by omega
        have held : ∀ w', Bel w w' → w'.cell? ⟨b1, b2 + k, none⟩ = some (.slice B' m c') ∧ w'.cell? ⟨a, p + k, none⟩ = some (.slice A' m1 c1) :=
          fun w' h => ⟨by rw [h.use.1 _ _ hbl']; exact hc1', by rw [h.use.1 _ _ hbl]; exact hc1⟩
        have Held := Lib.hid held
        have HM1 := Lib.hid hm1; have HL := Lib.hid hl'
        have hc9 : c' ≤ 140737488351232 := (reachN_le hre (by omega)).1
        clear hg' held hc1 hc1' hm1 hl'
        obtain ⟨wo, hwo⟩ : ∃ wo : World, wo = wr := ⟨_, rfl⟩
        subst hwo
        go_wp2
        go_region_held3 (fun w' => Bel w w' ∧ w'.cell? ⟨b1, b2 + k, none⟩ = some (.slice B' m c') ∧ w'.cell? ⟨a, p + k, none⟩ = some (.slice A' m1 c1)) (exact ⟨by (repeat (first | exact Bel.refl _ | assumption | refine Bel.drew ?_ | refine Bel.drewN ?_ _ | refine Bel.alloc ?_ _ | refine Bel.setCell ?_ (by first | omega | (simp; done) | (simp; omega) | (simp at *; omega)) _ | refine Bel.trans ?_ (by assumption))), Held.out _ (by (repeat (first | exact Bel.refl _ | assumption | refine Bel.drew ?_ | refine Bel.drewN ?_ _ | refine Bel.alloc ?_ _ | refine Bel.setCell ?_ (by first | omega | (simp; done) | (simp; omega) | (simp at *; omega)) _ | refine Bel.trans ?_ (by assumption))))⟩)
          (first | (go_at_call 22; refine (keptInts_any A' B' m1 c1 m c' zs _ (hI.bel (by (repeat (first | exact Bel.refl _ | assumption | refine Bel.drew ?_ | refine Bel.drewN ?_ _ | refine Bel.alloc ?_ _ | refine Bel.setCell ?_ (by first | omega | (simp; done) | (simp; omega) | (simp at *; omega)) _ | refine Bel.trans ?_ (by assumption))))) (hI'.bel (by (repeat (first | exact Bel.refl _ | assumption | refine Bel.drew ?_ | refine Bel.drewN ?_ _ | refine Bel.alloc ?_ _ | refine Bel.setCell ?_ (by first | omega | (simp; done) | (simp; omega) | (simp at *; omega)) _ | refine Bel.trans ?_ (by assumption))))) HM1.out HL.out hm' hnn hc9).mono ?_; rintro e w1 ⟨rfl, hb1⟩))
        all_goals
          go_wp2
          go_roundw
          case rel => exact ⟨k + 1, by omega, by go_num, by (repeat (first | exact Bel.refl _ | assumption | refine Bel.drew ?_ | refine Bel.drewN ?_ _ | refine Bel.alloc ?_ _ | refine Bel.setCell ?_ (by first | omega | (simp; done) | (simp; omega) | (simp at *; omega)) _ | refine Bel.trans ?_ (by assumption)))⟩
          case measure => simp [intOf]; omega
      · obtain rfl : k = n := by omega
        go_wp2
        go_ret
        exact ⟨rfl, hb⟩
end Go.Proofs.Ytahkihifgafbnaa
