/- Records: the document's IsNext, walked. -/
import Derived.Test.YtogeackcnmeooaaKT
import Derived.Deep.OwnRows
import Derived.Test.YtogeackcnmeooaaKH
namespace Go.Proofs.Ytogeackcnmeooaa
open Go.RowKit

theorem boolcells (w : World) (ty : TypeId) {w' : World} (h : Bel (w.alloc (.cells #[.bool true, .bool false] ty)) w') : w'.cell? ⟨w.heap.size, 0, none⟩ = some (.bool true) ∧ w'.cell? ⟨w.heap.size, 1, none⟩ = some (.bool false) := by
  refine ⟨?_, ?_⟩ <;> (rw [h.use.1 _ _ (by simp)]; go_simp)
set_option maxRecDepth 100000 in
set_option maxHeartbeats 4000000 in
theorem rIsNext_some (g : Nat) (A : Option Addr) (n c : Nat) (L : List An) (A1 : Option Addr) (n1 c1 : Nat) (S : List Int) (w : World) (hR : Ans w A L) (hn : L.length = n) (h12 : n < 12) (h0 : 0 < n) (he : errA (g : Int) L = 0)
    (hI : Ints w A1 S) (hn1 : S.length = n1) (hm1 : n1 ≤ maxLen) (hS : setB S g = true)
    (hN : ∀ y, nd (zA (L ++ [(S, y)]) g) (zB (L ++ [(S, y)]) g - zA (L ++ [(S, y)]) g) < nd (zA L g) (zB L g - zA L g)) :
    Calls Try.prog 76 #[.int .i64 (g : Int), .slice A n c, .slice A1 n1 c1] w fun e w' => e = .returned (.bool true) ∧ Bel w w' := by
  obtain ⟨i0, hi, hz0, hz1, hz2⟩ := info_parts info2A
  obtain ⟨⟨g1, g2⟩, hl12, _⟩ := errA_zero he
  have HE := Lib.hid he
  have Hn := Lib.hid hn
  have HN1 := Lib.hid hn1
  have HM1 := Lib.hid hm1
  have HS := Lib.hid hS
  have HNN := Lib.hid hN
  have hz := z_bd L g
  obtain ⟨b, o, vs, rfl, hbl, hvl, hv1, hvc⟩ := hR.cellsV (by intro h; rw [h] at hn; simp at hn; omega)
  have HVL := Lib.hid hvl
  have HVC := Lib.hid hvc
  have HV1 := Lib.hid hv1
  obtain ⟨a, ha⟩ : ∃ a, a = zA L g := ⟨_, rfl⟩
  obtain ⟨d, hd⟩ : ∃ d : Nat, d = zB L g - zA L g := ⟨_, rfl⟩
  have HDI := Lib.hid (show ((zB L g : Nat) : Int) - ((zA L g : Nat) : Int) = (d : Int) by omega)
  have HA := Lib.hid ha
  have HD := Lib.hid hd
  have ha16 : a ≤ 16 := by omega
  have hd16 : d ≤ 16 := by omega
  clear hn hn1 hm1 hS hN he hvl hvc hv1 hz ha hd hl12
  go_enter Try.func76, Try.ntmps76
  go_wp2_with fail
  refine (rIsSet_any A1 n1 c1 S g _ hI HN1.out HM1.out (by omega) (by omega)).mono ?_
  rintro e w1 ⟨rfl, hb1⟩
  rw [HS.out]
  go_wp2_with fail
  refine (rState_ok g _ n c L _ (hR.bel hb1) Hn.out (by unfold maxLen; omega) HE.out).mono ?_
  rintro e w2 ⟨rfl, hb2⟩
  rw [HDI.out, ← HA.out]
  have hb12 := hb1.trans hb2
  have Held := Lib.hid (fun w' (h : Bel (w2.alloc (.cells #[.bool true, .bool false] 4)) w') => boolcells w2 4 h)
  go_wp2
  go_loopw [28] (fun i wr => ∃ k : Nat, k ≤ 2 ∧ i = .int .i64 k ∧ Bel (w2.alloc (.cells #[.bool true, .bool false] 4)) wr) (fun i _ => 2 - (intOf i).toNat)
  case atStart => exact ⟨0, by omega, rfl, Bel.refl _⟩
  case round =>
    obtain ⟨k, hk, rfl, hb⟩ := hrel
    obtain ⟨q0, q1⟩ := Held.out _ hb
    by_cases hlt : k < 2
    · obtain ⟨y, hy⟩ : ∃ y : Bool, wr.cell? ⟨w2.heap.size, k, none⟩ = some (.bool y) := by
        rcases (by omega : k = 0 ∨ k = 1) with rfl | rfl
        · exact ⟨_, q0⟩
        · exact ⟨_, q1⟩
      have hk2 : (k : Int) < 2 := by omega
      clear q0 q1
      have hbase : w2.heap.size + 1 ≤ wr.heap.size := by have h2 := hb.size; simp at h2; omega
      have hX1 := Lib.hid (show 0 + n ≤ maxLen by unfold maxLen; omega)
      have hX2 := Lib.hid (show (0 + n) * 32 ≤ 140737488355328 by omega)
      have hX3 := Lib.hid (show n + 1 ≤ maxLen by unfold maxLen; omega)
      have hX4 := Lib.hid (show (n + 1) * 32 ≤ 140737488355328 by omega)
      have hbw : Bel w wr := (hb12.alloc _).trans hb
      have hnews : Hid (∀ w', Bel w w' → ∀ j u, vs[j]? = some u → w'.cell? ((⟨b, o, none⟩ : Addr).add j) = some u) := by
        intro w' hb' j u hj
        have hjl : j < L.length * 2 := by have := (List.getElem?_eq_some_iff.1 hj).1; have := HVL.out; omega
        rw [Go.Addr.add_mid, hb'.use.1 _ _ hbl, HVC.out j hjl]
        exact hj
      have hlit : Hid ((wr.alloc (.cells #[] 38)).ownsRow (w2.heap.size + 1) 38 2 (.slice (some ⟨wr.heap.size, 0, none⟩) 0 0) 0 []) := World.ownsRow_lit wr #[] 0 hbase (by unfold maxLen; omega) rfl
      go_wp2_with (first
        | (at_builtin; go_loud (refine wpList_append_lies _ rfl (.tmp 34) (.tmp 35) 22 rfl (w2.heap.size + 1) 38 i0 _ 2 32 Try.underlying22 hi hz0 hz1 hz2 rfl (by decide) _ 0 [] (by rfl) hlit.out ⟨b, o, none⟩ n c vs (by rfl) (by rw [HVL.out, Hn.out]) (hnews.out _ (hbw.alloc _)) HV1.out h0 hX1.out hX2.out (Nat.le_trans hbase (by simp)) _ rfl ?_); intro g3 cap3 w3; rw [show 0 + n = n from Nat.zero_add n, List.nil_append]; intro hown3 hgr3 hat3 hlt3; have hB3 := grown_own (w := w2.alloc (.cells #[.bool true, .bool false] 4)) (hb.alloc _) hlit.out (by simp) hgr3; clear hgr3 hat3 hlt3)
        | (at_builtin; go_loud (refine wpList_append_lies _ rfl (.tmp 36) (.tmp 40) 22 rfl (w2.heap.size + 1) 38 i0 _ 2 32 Try.underlying22 hi hz0 hz1 hz2 rfl (by decide) _ n vs (by rfl) (hown3.alloc _) ⟨w3.heap.size, 0, none⟩ 1 1 [.slice A1 n1 c1, .bool y] (by rfl) rfl (new2 _ _ _ _ _ rfl) (one2 _ _ _ _) (by omega) hX3.out hX4.out (by have h3 := hB3.size; simp at h3 ⊢; omega) _ rfl ?_); intro g4 cap4 w4 hown4 hgr4 hat4 hlt4; have hB4 := grown_own (w := w2.alloc (.cells #[.bool true, .bool false] 4)) (hB3.alloc _) hown3 (by simp) hgr4; clear hgr4 hat4 hlt4 hown3)
        | fail)
      have hbw4 : Bel w w4 := (hb12.alloc _).trans hB4
      have hLong := Ans.longer (S := S) (y := y) hR (fun j hj => HVC.out j hj) HVL.out hbw4 (by rw [Hn.out]; exact hown4) hI HN1.out HM1.out
      clear hown4
      obtain ⟨M, hM⟩ : ∃ M, M = L ++ [(S, y)] := ⟨_, rfl⟩
      have hME := Lib.hid (show errA (g : Int) M = 0 by rw [hM]; exact longer_err HE.out (by rw [Hn.out]; exact h12) HS.out)
      have hML := Lib.hid (show M.length = n + 1 by rw [hM, List.length_append, Hn.out]; rfl)
      have hlt' := HNN.out y
      rw [← hM, ← HD.out, ← HA.out] at hlt'
      rw [← hM] at hLong
      clear hM
      have hzM := z_bd M g
      obtain ⟨a', ha'⟩ : ∃ a', a' = zA M g := ⟨_, rfl⟩
      obtain ⟨d', hd'⟩ : ∃ d' : Nat, d' = zB M g - zA M g := ⟨_, rfl⟩
      have HDI' := Lib.hid (show ((zB M g : Nat) : Int) - ((zA M g : Nat) : Int) = (d' : Int) by omega)
      have HA' := Lib.hid ha'
      rw [← hd', ← ha'] at hlt'
      have ha16' : a' ≤ 16 := by omega
      have hd16' : d' ≤ 16 := by omega
      obtain ⟨q, hq⟩ : ∃ q, q = nd a d := ⟨_, rfl⟩
      obtain ⟨q', hq'⟩ : ∃ q, q = nd a' d' := ⟨_, rfl⟩
      rw [← hq, ← hq'] at hlt'
      have HQ := Lib.hid hq
      have HQ' := Lib.hid hq'
      have hqi : (q' : Int) < (q : Int) := by omega
      clear hzM ha' hd' hq hq' hy
      go_wp2_with fail
      refine (rState_ok g _ (n + 1) cap4 M _ hLong hML.out (by unfold maxLen; omega) hME.out).mono ?_
      rintro e w5 ⟨rfl, hb5⟩
      rw [HDI'.out, ← HA'.out]
      go_wp2_with fail
      refine (rneed_any a' d' _ ha16' hd16').mono ?_
      rintro e w6 ⟨rfl, hb6⟩
      rw [← HQ'.out]
      go_wp2_with fail
      refine (rneed_any a d _ ha16 hd16).mono ?_
      rintro e w7 ⟨rfl, hb7⟩
      rw [← HQ.out]
      have hB7 := ((hB4.trans hb5).trans hb6).trans hb7
      go_wp2
      go_roundw
      case rel => exact ⟨k + 1, by omega, by go_num, hB7⟩
      case measure => simp [intOf]; omega
    · obtain rfl : k = 2 := by omega
      clear q0 q1
      go_wp2
      go_ret
      exact ⟨rfl, by (repeat (first | exact Bel.refl _ | assumption | refine Bel.drew ?_ | refine Bel.drewN ?_ _ | refine Bel.alloc ?_ _ | refine Bel.setCell ?_ (by first | omega | (simp; done) | (simp; omega) | (simp at *; omega)) _ | refine Bel.trans ?_ (by assumption)))⟩
end Go.Proofs.Ytogeackcnmeooaa
