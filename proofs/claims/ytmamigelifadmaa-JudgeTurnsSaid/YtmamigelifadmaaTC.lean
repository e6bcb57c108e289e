/- The document's Turn. -/
import Derived.Test.YtmamigelifadmaaTB
namespace Go.Proofs.Ytmamigelifadmaa
open Go.RowKit

set_option maxRecDepth 100000 in
theorem rTurn_err (g : Int) (A : Option Addr) (n c : Nat) (L : List An) (w : World) (hR : Ans w A L) (hn : L.length = n) (hmax : n ≤ maxLen) (he : errA g L ≠ 0) :
    Calls Try.prog 14 #[.slice A n c, .int .i64 g] w fun e w' => e = .returned (.tuple #[.slice none 0 0, .int .i64 (errA g L)]) ∧ Bel w w' := by
  have hne : (errA g L != 0) = true := by simpa using he
  clear he
  go_enter Try.func14, Try.ntmps14
  go_wp2_with fail
  refine (rValidate_any g A n c L _ hR hn hmax).mono ?_
  rintro e w1 ⟨rfl, hb1⟩
  go_wp2
  go_ret2
  exact ⟨rfl, hb1⟩

/-- New answers that the call owns, and OK. -/
def Turned (w : World) (L : List An) (e : Ending) (w' : World) : Prop := ∃ v, e = .returned (.tuple #[v, .int .i64 0]) ∧ OwnA w.heap.size w' v L ∧ Bel w w'

set_option maxRecDepth 100000 in
set_option maxHeartbeats 4000000 in
theorem rTurn_ok (g : Nat) (A : Option Addr) (n c : Nat) (L : List An) (w : World) (hR : Ans w A L) (hn : L.length = n) (he : errA (g : Int) L = 0) :
    Calls Try.prog 14 #[.slice A n c, .int .i64 (g : Int)] w (Turned w (turnL g L)) := by
  obtain ⟨i0, hi, hz0, hz1, hz2⟩ := info_parts info2A
  obtain ⟨i1, hj, hj0, hj1, hj2⟩ := info_parts info1I
  obtain ⟨⟨g1, g2⟩, h12, -⟩ := errA_zero he
  have hg16 : g ≤ 16 := by omega
  have hn12 : n ≤ 12 := by omega
  have Hn := Lib.hid hn; have HE := Lib.hid he
  have HLEN := Lib.hid (turnL_length g L)
  clear hn he h12
  go_enter Try.func14, Try.ntmps14
  go_wp2_with fail
  refine (rValidate_any g A n c L _ hR Hn.out (by unfold maxLen; omega)).mono ?_
  rintro e w1 ⟨rfl, hb1⟩
  rw [HE.out]
  go_wp2
  go_loopw [7, 8, 9, 10] (fun v i _ _ wr => ∃ k : Nat, k ≤ n ∧ i = .int .i64 k ∧ Bel w wr ∧ OwnA w.heap.size wr v ((turnL g L).take k)) (fun _ i _ _ _ => n - (intOf i).toNat)
  case atStart => exact ⟨0, Nat.zero_le _, rfl, hb1, OwnA.nil _ _⟩
  case round =>
    obtain ⟨k, hk, rfl, hb, hO⟩ := hrel
    by_cases hlt : k < n
    · obtain ⟨a1, a2, ns, y, A', n', c', rfl, hbl, hg, hc1, hc2, hI, hl', hm'⟩ := (hR.bel hb).at_ (k := k) (by rw [Hn.out]; exact hlt)
      obtain ⟨vs, hO⟩ := hO
      have hlen : Hid (((turnL g L).take k).length = k) := by show _ = _; rw [List.length_take, HLEN.out, Hn.out]; omega
      have hO1 := hO.own
      rw [hlen.out] at hO1
      have hX1 := Lib.hid (show k + 1 ≤ maxLen by unfold maxLen; omega)
      have hX2 := Lib.hid (show (k + 1) * 32 ≤ 140737488355328 by omega)
      have HS : Hid ((turnL g L).take (k + 1) = (turnL g L).take k ++ [(othersL ns g, !y)]) := take_at (turnL_at hg)
      have HL := Lib.hid hl'
      have hkn : (k : Int) < (n : Int) := by omega
      obtain ⟨wo, hwo⟩ : ∃ wo : World, wo = wr := ⟨_, rfl⟩
      subst hwo
      have held : ∀ w', Bel wo w' → w'.cell? ⟨a1, a2 + k * 2, none⟩ = some (.slice A' n' c') ∧ w'.cell? ⟨a1, a2 + k * 2 + 1, none⟩ = some (.bool y) := fun w' h => ⟨by rw [h.use.1 _ _ hbl]; exact hc1, by rw [h.use.1 _ _ hbl]; exact hc2⟩
      have Held := Lib.hid held
      clear hg hl' held hc1 hc2
      go_wp2
      go_loopw [9, 10] (fun u i wr => ∃ j : Nat, j ≤ g ∧ i = .int .i64 j ∧ Bel wo wr ∧ Own1 3 wo.heap.size wr u (othersL ns j)) (fun _ i _ => g - (intOf i).toNat)
      case atStart => exact ⟨0, Nat.zero_le _, rfl, Bel.refl _, Own1.nil _ _ _⟩
      case round =>
        obtain ⟨j, hj', rfl, hb2, ho⟩ := hrel
        obtain ⟨hf1, hf2⟩ := Held.out wr hb2
        have hsz := hb2.size
        by_cases hjg : j < g
        · have hjg' : (j : Int) < (g : Int) := by omega
          have HS2 := Lib.hid (othersL_snoc ns j)
          have hl := othersL_len ns j
          obtain ⟨l, hll⟩ : ∃ l, l = othersL ns j := ⟨_, rfl⟩
          rw [← hll] at ho hl
          have HL2 := Lib.hid hll
          clear hll
          have hX3 := Lib.hid (show l.length + 1 ≤ maxLen by unfold maxLen; omega)
          have hX4 := Lib.hid (show (l.length + 1) * 8 ≤ 140737488355328 by omega)
          cases hh : hasB ns (j : Int)
          · have HQ : Hid (othersL ns (j + 1) = l ++ [(j : Int)]) := by show _ = _; rw [HS2.out, hh, ← HL2.out]; rfl
            go_wp2_with (first | (go_at_call 26; refine (has_any A' n' c' ns _ _ (hI.bel hb2) HL.out hm').mono ?_; rintro e w2 ⟨rfl, rfl⟩) | (at_builtin; go_loud (refine wpList_append_lies _ rfl (.tmp 36) (.tmp 38) 26 rfl wo.heap.size 3 i1 _ 1 8 Try.underlying26 hj hj0 hj1 hj2 rfl (by decide) u9 l.length (l.map fun x => .int .i64 x) (by rfl) (ho.alloc _) ⟨wr.heap.size, 0, none⟩ 1 1 [.int .i64 (j : Int)] (by rfl) rfl (new1 wr _ _ _ rfl) (one1 _) (by omega) hX3.out hX4.out (Nat.le_trans hsz (by simp)) _ rfl ?_); intro g3 cap3 w3 hown3 hgr3 _ hlt3))
            obtain ⟨hB3, hs3, hblk⟩ := after_app hb2 (Nat.le_refl _) ho hsz hgr3
            have hO3 := Own1.snoc hown3
            clear hown3 hgr3 hlt3 hblk hb2 ho
            go_roundw
            case rel => exact ⟨j + 1, by omega, by go_num, hB3, by rw [HQ.out]; exact hO3⟩
            case measure => simp [intOf]; omega
          · have HQ : Hid (othersL ns (j + 1) = l) := by show _ = _; rw [HS2.out, hh, ← HL2.out]; simp
            go_wp2_with (go_at_call 26; refine (has_any A' n' c' ns _ _ (hI.bel hb2) HL.out hm').mono ?_; rintro e w2 ⟨rfl, rfl⟩)
            go_roundw
            case rel => exact ⟨j + 1, by omega, by go_num, hb2, by rw [HQ.out]; exact ho⟩
            case measure => simp [intOf]; omega
        · obtain rfl : j = g := by omega
          have hlt1 := fun b hb => World.ownsRow.lt ho b hb
          obtain ⟨A2, n2, c2, rfl, hn2, hI2⟩ := ho.form
          have HN2 := Lib.hid hn2
          have hn16 : n2 ≤ 16 := by have := othersL_len ns j; omega
          have hO2 := hO.bel hb2
          have hO21 := hO2.own
          rw [hlen.out] at hO21
          have hsw := hb.size
          clear hn2 ho
          go_wp2_with (at_builtin; go_loud (refine wpList_append_lies _ rfl (.tmp 40) (.tmp 49) 22 rfl w.heap.size 31 i0 _ 2 32 Try.underlying22 hi hz0 hz1 hz2 rfl (by decide) u7 k vs (by rfl) (World.ownsRow.alloc hO21 _) ⟨wr.heap.size, 0, none⟩ 1 1 [.slice A2 n2 c2, .bool (!y)] (by rfl) rfl (new2 _ _ _ _ _ rfl) (one2 _ _ _ _) (by omega) hX1.out hX2.out (by simp <;> omega) _ rfl ?_); intro g3 cap3 w3 hown3 hgr3 hat3 hlt3)
          have hO3 := OwnV.snoc (g := g3) (hO2.bel ((Bel.refl wr).alloc _)) (hI2.bel ((Bel.refl wr).alloc _)) HN2.out.symm (by unfold maxLen; omega) (fun b o hA => by
              subst hA
              obtain ⟨k1, k2⟩ := hlt1 b rfl
              refine ⟨by simp <;> omega, fun e => ?_⟩
              have h1 := (World.ownsRow.lt hO1 _ e).2
              omega) (by rw [hlen.out]; exact hown3) hgr3 (by rw [hlen.out] at *; simpa using hat3)
          have hB3 := grown_own (w := w) ((hb.trans hb2).alloc _) hO21 (Nat.le_refl _) hgr3
          rw [hlen.out] at hO3
          clear hown3 hgr3 hat3 hlt3
          go_roundw
          case rel => exact ⟨k + 1, by omega, by go_num, hB3, by rw [HS.out]; exact hO3⟩
          case measure => simp [intOf]; omega
    · obtain rfl : k = n := by omega
      have ht : Hid ((turnL g L).take k = turnL g L) := List.take_of_length_le (by rw [HLEN.out, Hn.out]; omega)
      rw [ht.out] at hO
      go_wp2
      go_ret2
      exact ⟨_, rfl, hO, hb⟩
end Go.Proofs.Ytmamigelifadmaa
