/- The document's against; lists compared; long records. -/
import Derived.Test.YtogeackcnmeooaaKI
namespace Go.Proofs.Ytogeackcnmeooaa
open Go.RowKit

/-- The counts against the grades. -/
def countL (L : List An) (g : Nat) : List Int := (List.range g).map (cntI L)
theorem countL_snoc (L : List An) (k : Nat) : countL L (k + 1) = countL L k ++ [cntI L k] := by
  unfold countL
  rw [List.range_succ, List.map_append]
  rfl
theorem countL_length (L : List An) (k : Nat) : (countL L k).length = k := by simp [countL]
theorem ag_eq (ns : List Int) (y : Bool) (g : Int) : (hasB ns g != y) = ag (ns, y) g := by
  unfold ag
  cases hasB ns g <;> cases y <;> rfl

set_option maxRecDepth 100000 in
set_option maxHeartbeats 2000000 in
theorem ragainst_any (g : Nat) (A : Option Addr) (n c : Nat) (L : List An) (w : World) (hR : Ans w A L) (hn : L.length = n) (h12 : n ≤ 12) (hg : g ≤ 16) :
    Calls Try.prog 89 #[.int .i64 (g : Int), .slice A n c] w (News w (countL L g)) := by
  have Hn := Lib.hid hn
  have hgi : (g : Int) ≤ 16 := by omega
  obtain ⟨i0, hi, hz0, hz1, hz2⟩ := info_parts info1I
  clear hn
  go_enter Try.func89, Try.ntmps89
  go_wp2
  go_loopw [5, 6] (fun v i wr => ∃ k : Nat, k ≤ g ∧ i = .int .i64 k ∧ Bel w wr ∧ Own1 3 w.heap.size wr v (countL L k)) (fun _ i _ => g - (intOf i).toNat)
  case atStart => exact ⟨0, Nat.zero_le _, rfl, Bel.refl _, Own1.nil _ _ _⟩
  case round =>
    obtain ⟨k, hk, rfl, hb, hO⟩ := hrel
    by_cases hlt : k < g
    · have hkg : (k : Int) < (g : Int) := by omega
      obtain ⟨l, hll⟩ : ∃ l, l = countL L k := ⟨_, rfl⟩
      have hl : l.length = k := by rw [hll, countL_length]
      rw [← hll] at hO
      have HL := Lib.hid hll; have HLL := Lib.hid hl
      clear hll hl
      go_wp2
      obtain ⟨wo, hwo⟩ : ∃ wo : World, wo = wr := ⟨_, rfl⟩
      subst hwo
      go_loopw [7, 8] (fun s i wr => ∃ m : Nat, m ≤ n ∧ i = .int .i64 m ∧ s = .int .i64 (cntI (L.take m) k) ∧ Bel w wr ∧ Own1 3 w.heap.size wr u5 l) (fun _ i _ => n - (intOf i).toNat)
      case atStart => exact ⟨0, Nat.zero_le _, rfl, rfl, hb, hO⟩
      case round =>
        clear hb hO
        obtain ⟨m, hm, rfl, rfl, hb, hO⟩ := hrel
        have hbd := cntI_bd (L.take m) k
        have hlt2 := List.length_take_le m L
        by_cases hlm : m < n
        · obtain ⟨b, o, ns, y, A', n', c', rfl, hbl, hgk, hc1, hc2, hI, hn', hm'⟩ := (hR.bel hb).at_ (k := m) (by rw [Hn.out]; exact hlm)
          have HN' := Lib.hid hn'; have HM' := Lib.hid hm'
          have hmn : (m : Int) < (n : Int) := by omega
          have hm0 : (0 : Int) ≤ (m : Int) := by omega
          have HS := Lib.hid (cntI_snoc (L.take m) (ns, y) k)
          have HT := Lib.hid (take_at hgk)
          obtain ⟨v0, hv⟩ : ∃ v0, v0 = cntI (L.take m) k := ⟨_, rfl⟩
          have hv0 : 0 ≤ v0 ∧ v0 ≤ 12 := by omega
          obtain ⟨b0, b1⟩ := hv0
          rw [← hv] at HS ⊢
          have HAG := Lib.hid (ag_eq ns y (k : Int))
          clear hgk hn' hm' hbd hlt2 hv
          cases ha : ag (ns, y) k
          · have HQ : Hid (v0 = cntI (L.take (m + 1)) k) := by show _ = _; rw [HT.out, HS.out, ha]; simp
            have hcond : hasB ns (k : Int) = y := by have := HAG.out.trans ha; simpa using this
            clear ha
            go_wp2
            go_quiet ((go_at_call 49; exact Calls.quiet_of_same ((has_any A' n' c' ns _ _ (hI.bel ((Bel.refl _).drewN _)) HN'.out HM'.out).mono fun _ _ h => ⟨h.1, h.2.symm⟩)))
            clear hc1 hc2
            go_wp2
            clear hcond
            go_roundw
            case rel => exact ⟨m + 1, by omega, by go_num, by rw [← HQ.out], by (repeat (first | exact Bel.refl _ | assumption | refine Bel.drew ?_ | refine Bel.drewN ?_ _ | refine Bel.alloc ?_ _ | refine Bel.setCell ?_ (by first | omega | (simp; done) | (simp; omega) | (simp at *; omega)) _ | refine Bel.trans ?_ (by assumption))), hO.bel ((Bel.refl _).drewN _)⟩
            case measure => simp [intOf]; omega
          · have HQ : Hid (v0 + 1 = cntI (L.take (m + 1)) k) := by show _ = _; rw [HT.out, HS.out, ha]; rfl
            have hcond : hasB ns (k : Int) = !y := by have := HAG.out.trans ha; revert this; cases hasB ns (k : Int) <;> cases y <;> simp
            clear ha
            go_wp2
            go_quiet ((go_at_call 49; exact Calls.quiet_of_same ((has_any A' n' c' ns _ _ (hI.bel ((Bel.refl _).drewN _)) HN'.out HM'.out).mono fun _ _ h => ⟨h.1, h.2.symm⟩)))
            clear hc1 hc2
            go_wp2
            clear hcond
            go_roundw
            case rel => exact ⟨m + 1, by omega, by go_num, by rw [← HQ.out], by (repeat (first | exact Bel.refl _ | assumption | refine Bel.drew ?_ | refine Bel.drewN ?_ _ | refine Bel.alloc ?_ _ | refine Bel.setCell ?_ (by first | omega | (simp; done) | (simp; omega) | (simp at *; omega)) _ | refine Bel.trans ?_ (by assumption))), hO.bel ((Bel.refl _).drewN _)⟩
            case measure => simp [intOf]; omega
        · obtain rfl : m = n := by omega
          have ht : L.take m = L := List.take_of_length_le (by rw [Hn.out]; omega)
          rw [ht]
          obtain ⟨v0, hv⟩ : ∃ v0, v0 = cntI L k := ⟨_, rfl⟩
          rw [← hv]
          have HQ : Hid (countL L (k + 1) = l ++ [v0]) := by show _ = _; rw [countL_snoc, HL.out, hv]
          have hO1 : wr.ownsRow w.heap.size 3 1 u5 k (l.map fun x => .int .i64 x) := by
            have : wr.ownsRow w.heap.size 3 1 u5 l.length (l.map fun x => .int .i64 x) := hO
            rwa [HLL.out] at this
          have hX1 := Lib.hid (show k + 1 ≤ maxLen by unfold maxLen; omega)
          have hX2 := Lib.hid (show (k + 1) * 8 ≤ 140737488355328 by omega)
          have hbs := hb.size
          clear ht hbd hlt2 hv
          go_wp2_with (at_builtin; go_loud (refine wpList_append_lies _ rfl (.tmp 35) (.tmp 37) 36 rfl w.heap.size 3 i0 _ 1 8 Try.underlying36 hi hz0 hz1 hz2 rfl (by decide) u5 k (l.map fun x => .int .i64 x) (by rfl) (hO1.alloc _) ⟨wr.heap.size, 0, none⟩ 1 1 [.int .i64 v0] (by rfl) rfl (new1 wr _ _ _ rfl) (one1 _) (by omega) hX1.out hX2.out (Nat.le_trans hbs (by simp)) _ rfl ?_); intro g3 cap3 w3 hown3 hgr3 _ hlt3)
          obtain ⟨hB3, hs3, hblk⟩ := after_app hb (Nat.le_refl _) hO hbs hgr3
          have hO3 : Own1 3 w.heap.size w3 (.slice (some ⟨g3, 0, none⟩) (k + 1) cap3) (l ++ [v0]) := Own1.snoc (by rw [HLL.out]; exact hown3)
          clear hown3 hgr3 hlt3 hblk hb hO hO1 hs3
          go_roundw
          case rel => exact ⟨k + 1, by omega, by go_num, hB3, by rw [HQ.out]; exact hO3⟩
          case measure => simp [intOf]; omega
    · obtain rfl : k = g := by omega
      obtain ⟨A', n', c', rfl, hn', hI⟩ := hO.form
      have HN := Lib.hid hn'
      clear hn' hO
      go_wp2
      go_ret
      exact ⟨A', n', c', rfl, HN.out, hb, hI⟩
end Go.Proofs.Ytogeackcnmeooaa
