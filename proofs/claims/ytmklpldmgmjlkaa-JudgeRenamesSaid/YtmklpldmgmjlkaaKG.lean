/- KeepAnswers and KeptAnswers. -/
import Derived.Test.YtmklpldmgmjlkaaKF
import Derived.Outline
namespace Go.Proofs.Ytmklpldmgmjlkaa
open Go.RowKit

theorem ownsRow_bel {w w' : World} {base e size n : Nat} {v : Value} {xs : List Value} (h : w.ownsRow base e size v n xs) (hb : Bel w w') : w'.ownsRow base e size v n xs :=
  World.ownsRow.kept (row := none) h ⟨hb.os, hb.tape, hb.output, hb.size, fun k hk _ => hb.block k hk⟩ (by
    cases hv : v.ownBlock with
    | none => exact .inl rfl
    | some k => exact .inr (by simp))
theorem grown_own {w W W' w3 : World} {base e size n : Nat} {v : Value} {xs : List Value} (hb : Bel w W) (ho : W'.ownsRow base e size v n xs) (h0 : w.heap.size ≤ base) (hg : W.grownBy w3 v.ownBlock) : Bel w w3 :=
  Below.grown hb hg hb.size (fun i hi => Nat.le_trans h0 (World.ownsRow.lt ho i hi).1)
def KeptA (w : World) (Z : List AnZ) (e : Ending) (w' : World) : Prop := ∃ A n c, e = .returned (.slice A n c) ∧ n = Z.length ∧ Bel w w' ∧ Ans w' A (Z.map full)

set_option maxRecDepth 100000 in
set_option maxHeartbeats 4000000 in
theorem keepAnswers_any (A : Option Addr) (n c : Nat) (Z : List AnZ) (w : World) (hR : AnsZ w A Z) (hc : Z.length = c) (hn : n ≤ c) (h0 : A = none → c = 0) (hmax : c * 32 ≤ 140737488351232) :
    Calls Try.prog 4 #[.slice A n c] w (KeptA w Z) := by
  obtain ⟨i0, hi, hz0, hz1, hz2⟩ := info_parts info2A
  have HC := Lib.hid hc
  have hcl : (c : Int) ≤ 9223372036854775807 := by omega
  clear hc
  rcases A with _ | ⟨a1, a2, a3⟩
  · have hc0 := h0 rfl
    subst hc0
    obtain rfl : n = 0 := by omega
    have HZ := Lib.hid (List.eq_nil_of_length_eq_zero HC.out)
    go_enter Try.func4, Try.ntmps4
    go_wp2
    go_loopw [3, 4] (fun v i wr => v = .slice none 0 0 ∧ i = .int .i64 0 ∧ Bel w wr) (fun _ _ _ => 0)
    case atStart => exact ⟨rfl, rfl, Bel.refl _⟩
    case round =>
      obtain ⟨rfl, rfl, hb⟩ := hrel
      go_wp2
      go_ret
      exact ⟨none, 0, 0, rfl, HC.out.symm, hb, by rw [HZ.out]; exact .inl rfl⟩
  · clear h0
    go_enter Try.func4, Try.ntmps4
    go_wp2
    go_loopw [3, 4] (fun v i wr => ∃ k : Nat, k ≤ c ∧ i = .int .i64 k ∧ Bel w wr ∧ OwnA w.heap.size wr v ((Z.take k).map full)) (fun _ i _ => c - (intOf i).toNat)
    case atStart => exact ⟨0, Nat.zero_le _, rfl, Bel.refl _, OwnA.nil _ _⟩
    case round =>
      obtain ⟨k, hk, rfl, hb, hO⟩ := hrel
      by_cases hlt : k < c
      · obtain ⟨b, o, zs, m, y, A', c', hA, hbl, hg, hc1, hc2, hI, hl', hm', hnn, hre⟩ := hR.at_ (k := k) (by rw [HC.out]; exact hlt)
        injection hA with hA
        injection hA with e1 e2 e3
        subst e1 e2 e3
        obtain ⟨vs, hO⟩ := hO
        have hlen : ((Z.take k).map full).length = k := by rw [List.length_map, List.length_take, HC.out]; omega
        have hO1 := hO.own
        rw [hlen] at hO1
        have hX1 := Lib.hid (show k + 1 ≤ maxLen by unfold maxLen; omega)
        have hX2 := Lib.hid (show (k + 1) * 32 ≤ 140737488355328 by omega)
        have hbase := hb.size
        have HG := Lib.hid hg
        have HL := Lib.hid hl'
        have held : ∀ w', Bel w w' → w'.cell? ⟨a1, a2 + k * 2, none⟩ = some (.slice A' m c') ∧ w'.cell? ⟨a1, a2 + k * 2 + 1, none⟩ = some (.bool y) := fun w' h => ⟨by rw [h.use.1 _ _ hbl]; exact hc1, by rw [h.use.1 _ _ hbl]; exact hc2⟩
        have Held := Lib.hid held
        obtain ⟨wo, hwo⟩ : ∃ wo : World, wo = wr := ⟨_, rfl⟩
        subst hwo
        clear hg hl' held hc1 hc2
        go_wp2
        go_region_held_law (fun w' => Bel w w' ∧ w'.cell? ⟨a1, a2 + k * 2, none⟩ = some (.slice A' m c') ∧ w'.cell? ⟨a1, a2 + k * 2 + 1, none⟩ = some (.bool y)) (first | (have hB9 := grown_own (w := w) ((hb.trans hb01).alloc _) hO1 (Nat.le_refl _) hgr3; exact ⟨hB9, Held.out _ hB9⟩) | exact ⟨by (repeat (first | exact Bel.refl _ | assumption | refine Bel.drew ?_ | refine Bel.drewN ?_ _ | refine Bel.alloc ?_ _ | refine Bel.setCell ?_ (by first | omega | (simp; done) | (simp; omega) | (simp at *; omega)) _ | refine Bel.trans ?_ (by assumption))), Held.out _ (by (repeat (first | exact Bel.refl _ | assumption | refine Bel.drew ?_ | refine Bel.drewN ?_ _ | refine Bel.alloc ?_ _ | refine Bel.setCell ?_ (by first | omega | (simp; done) | (simp; omega) | (simp at *; omega)) _ | refine Bel.trans ?_ (by assumption))))⟩)
          (first | (go_at_call 5; refine (keepInts_any A' m c' zs _ (hI.bel (by (repeat (first | exact Bel.refl _ | assumption | refine Bel.drew ?_ | refine Bel.drewN ?_ _ | refine Bel.alloc ?_ _ | refine Bel.setCell ?_ (by first | omega | (simp; done) | (simp; omega) | (simp at *; omega)) _ | refine Bel.trans ?_ (by assumption))))) HL.out hm' hnn hre).mono ?_; rintro e w1 ⟨A1, n1, c1, rfl, hn1, hb1, hI1, hf1⟩; have HN1 := Lib.hid hn1; clear hn1; have hb01 : Bel wo w1 := (by (repeat (first | exact Bel.refl _ | assumption | refine Bel.drew ?_ | refine Bel.drewN ?_ _ | refine Bel.alloc ?_ _ | refine Bel.setCell ?_ (by first | omega | (simp; done) | (simp; omega) | (simp at *; omega)) _ | refine Bel.trans ?_ (by assumption)))); have hs1 := hb01.size) | (refine step_append_lies _ rfl (.tmp 15) (.tmp 28) 22 rfl w.heap.size 30 i0 _ 2 32 Try.underlying22 hi hz0 hz1 hz2 rfl (by decide) u3 k vs (by rfl) ((ownsRow_bel hO1 (by (repeat (first | exact Bel.refl _ | assumption | refine Bel.drew ?_ | refine Bel.drewN ?_ _ | refine Bel.alloc ?_ _ | refine Bel.setCell ?_ (by first | omega | (simp; done) | (simp; omega) | (simp at *; omega)) _ | refine Bel.trans ?_ (by assumption))))).alloc _) _ 1 1 [.slice A1 n1 c1, .bool y] (by rfl) rfl (new2 _ _ _ _ _ rfl) (one2 _ _ _ _) (by omega) hX1.out hX2.out (Nat.le_trans hbase (by simp <;> omega)) _ rfl ?_; intro g3 cap3 w3 hown3 hgr3 hat3 hlt3))
        all_goals
          have hO3 := OwnV.snoc (g := g3) ((hO.bel hb01).bel ((Bel.refl w1).alloc _)) (hI1.bel ((Bel.refl w1).alloc _)) HN1.out.symm (by rw [HN1.out, HL.out]; exact (reachN_le hre (by omega)).2) (fun b o hA => ⟨by have := (hf1 b o hA).2; simp <;> omega, fun e => by have h1 := (World.ownsRow.lt hO1 b e).2; have h2 := (hf1 b o hA).1; simp at h2; omega⟩) (by rw [hlen]; exact hown3) hgr3 (by simpa using hat3)
          have hB3 := grown_own (w := w) ((hb.trans hb01).alloc _) hO1 (Nat.le_refl _) hgr3
          rw [hlen] at hO3
          have HS : Hid (((Z.take (k + 1)).map full) = (Z.take k).map full ++ [(zs, y)]) := by show _ = _; rw [take_at HG.out, List.map_append]; rfl
          clear hown3 hgr3 hat3 hlt3 hI1 hf1 hb1 hO hO1
          go_wp2
          go_roundw
          case rel => exact ⟨k + 1, by omega, by go_num, hB3, by rw [HS.out]; exact hO3⟩
          case measure => simp [intOf]; omega
      · obtain rfl : k = c := by omega
        have ht : Z.take k = Z := List.take_of_length_le (by rw [HC.out]; omega)
        rw [ht] at hO
        obtain ⟨A', n', c', rfl, hn', hI⟩ := hO.form
        rw [List.length_map] at hn'
        have HN := Lib.hid hn'
        clear hn' hO ht
        go_wp2
        go_ret
        exact ⟨A', n', c', rfl, HN.out, hb, hI⟩
end Go.Proofs.Ytmklpldmgmjlkaa

