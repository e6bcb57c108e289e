/- The program's others. -/
import Derived.Test.YtmamigelifadmaaTA
namespace Go.Proofs.Ytmamigelifadmaa
open Go.RowKit

/-- A new list that the call owns. -/
def NewOwn (w : World) (l : List Int) (e : Ending) (w' : World) : Prop := ∃ v, e = .returned v ∧ Own1 3 w.heap.size w' v l ∧ Bel w w'

set_option maxRecDepth 100000 in
set_option maxHeartbeats 2000000 in
theorem others_any (A : Option Addr) (n c : Nat) (ns : List Int) (g : Nat) (w : World) (hR : Ints w A ns) (hn : ns.length = n) (hmax : n ≤ maxLen) (hg : g ≤ 16) :
    Calls Try.prog 28 #[.slice A n c, .int .i64 (g : Int)] w (NewOwn w (othersL ns g)) := by
  have Hn := Lib.hid hn
  have hgi : (g : Int) ≤ 16 := by omega
  obtain ⟨i0, hi, hz0, hz1, hz2⟩ := info_parts info1I
  clear hn
  go_enter Try.func28, Try.ntmps28
  go_wp2
  go_loopw [5, 6, 8] (fun v _ i wr => ∃ k : Nat, k ≤ g ∧ i = .int .i64 k ∧ Bel w wr ∧ Own1 3 w.heap.size wr v (othersL ns k) ∧ w.heap.size ≤ wr.heap.size) (fun _ _ i _ => g - (intOf i).toNat)
  case atStart => exact ⟨0, Nat.zero_le _, rfl, Bel.refl _, Own1.nil _ _ _, Nat.le_refl _⟩
  case round =>
    obtain ⟨k, hk, rfl, hb, hO, hsz⟩ := hrel
    by_cases hlt : k < g
    · have hkg : (k : Int) < (g : Int) := by omega
      have HS := Lib.hid (othersL_snoc ns k)
      have hl := othersL_len ns k
      obtain ⟨l, hll⟩ : ∃ l, l = othersL ns k := ⟨_, rfl⟩
      rw [← hll] at hO hl
      have HL := Lib.hid hll
      clear hll
      have hX1 := Lib.hid (show l.length + 1 ≤ maxLen by unfold maxLen; omega)
      have hX2 := Lib.hid (show (l.length + 1) * 8 ≤ 140737488355328 by omega)
      cases hh : hasB ns (k : Int)
      · have HQ : Hid (othersL ns (k + 1) = l ++ [(k : Int)]) := by show _ = _; rw [HS.out, hh, ← HL.out]; rfl
        go_wp2_with (first | (go_at_call 42; refine (contains_any A n c ns _ _ (hR.bel hb) Hn.out hmax).mono ?_; rintro e w2 ⟨rfl, rfl⟩) | (at_builtin; go_loud (refine wpList_append_lies _ rfl (.tmp 15) (.tmp 17) 26 rfl w.heap.size 3 i0 _ 1 8 Try.underlying26 hi hz0 hz1 hz2 rfl (by decide) u5 l.length (l.map fun x => .int .i64 x) (by rfl) (hO.alloc _) ⟨wr.heap.size, 0, none⟩ 1 1 [.int .i64 (k : Int)] (by rfl) rfl (new1 wr _ _ _ rfl) (one1 _) (by omega) hX1.out hX2.out (Nat.le_trans hsz (by simp)) _ rfl ?_); intro g3 cap3 w3 hown3 hgr3 _ hlt3))
        obtain ⟨hB3, hs3, hblk⟩ := after_app hb (Nat.le_refl _) hO hsz hgr3
        have hO3 := Own1.snoc hown3
        clear hown3 hgr3 hlt3 hblk hb hO
        go_roundw
        case rel => exact ⟨k + 1, by omega, by go_num, hB3, by rw [HQ.out]; exact hO3, hs3⟩
        case measure => simp [intOf]; omega
      · have HQ : Hid (othersL ns (k + 1) = l) := by show _ = _; rw [HS.out, hh, ← HL.out]; simp
        go_wp2_with (go_at_call 42; refine (contains_any A n c ns _ _ (hR.bel hb) Hn.out hmax).mono ?_; rintro e w2 ⟨rfl, rfl⟩)
        go_roundw
        case rel => exact ⟨k + 1, by omega, by go_num, hb, by rw [HQ.out]; exact hO, hsz⟩
        case measure => simp [intOf]; omega
    · obtain rfl : k = g := by omega
      go_wp2
      go_ret
      exact ⟨_, rfl, hO, hb⟩
end Go.Proofs.Ytmamigelifadmaa
