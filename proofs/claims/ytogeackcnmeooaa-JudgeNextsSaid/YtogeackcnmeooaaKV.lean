/- Records: the document's IsNext, for an empty record. -/
import Derived.Test.YtogeackcnmeooaaKU
namespace Go.Proofs.Ytogeackcnmeooaa
open Go.RowKit

theorem run_app0 (W : World) (ty : TypeId) (b0 : Addr) (p : Option Addr) (c : Nat) :
    (Builtin.append_ #[22, 22] ty #[.slice (some b0) 0 0, .slice p 0 c]).run Try.prog W = .ok (.slice (some b0) 0 0) W := by
  obtain ⟨i, hi, _⟩ := Option.map_eq_some_iff.1 info2A
  cases p <;> simp [Builtin.append_, run_underlying Try.underlying22, sizeOf, typeInfo, hi, Builtin.lenOf, Builtin.firstCells, loadCells, loadCellsFrom, storeCells]
/-- An append of no answer. -/
theorem wpList_app0 {ops : Array Oper} {rest : List Oper} {o : Oper} {a : Act} {w : World} {Q : Exit → Act → World → Prop} (hgd : o.guard = none) (s x : Operand)
    (ho : o.op = .call { callee := .builtin .append, args := #[s, x], argTypes := #[22, 22] }) (b0 : Addr) (p : Option Addr) (c : Nat)
    (hs : a.eval s = .slice (some b0) 0 0) (hx : a.eval x = .slice p 0 c) (h : wpList Try.prog ops Q rest (a.put o.dst (.slice (some b0) 0 0)) w) : wpList Try.prog ops Q (o :: rest) a w :=
  wpList_plain hgd fun _ hK => by
    have hr := run_app0 w o.type b0 p c
    unfold Oper.wp execOp
    simp only [ho, resolve, invoke, builtin, Sem.run_bind, Sem.run_pure, Result.andThen_ok, List.map_toArray, List.map_cons, List.map_nil, hs, hx, hr]
    exact hK _ _ h

set_option maxRecDepth 100000 in
set_option maxHeartbeats 4000000 in
theorem rIsNext_none (g : Nat) (A : Option Addr) (c : Nat) (L : List An) (A1 : Option Addr) (n1 c1 : Nat) (S : List Int) (w : World) (hR : Ans w A L) (hn : L.length = 0) (he : errA (g : Int) L = 0)
    (hI : Ints w A1 S) (hn1 : S.length = n1) (hm1 : n1 ≤ maxLen) (hS : setB S g = true)
    (hN : ∀ y, nd (zA (L ++ [(S, y)]) g) (zB (L ++ [(S, y)]) g - zA (L ++ [(S, y)]) g) < nd (zA L g) (zB L g - zA L g)) :
    Calls Try.prog 76 #[.int .i64 (g : Int), .slice A 0 c, .slice A1 n1 c1] w fun e w' => e = .returned (.bool true) ∧ Bel w w' := by
  obtain ⟨i0, hi, hz0, hz1, hz2⟩ := info_parts info2A
  obtain ⟨⟨g1, g2⟩, hl12, _⟩ := errA_zero he
  have HE := Lib.hid he
  have Hn := Lib.hid hn
  have HN1 := Lib.hid hn1
  have HM1 := Lib.hid hm1
  have HS := Lib.hid hS
  have HNN := Lib.hid hN
  have hz := z_bd L g
  obtain ⟨a, ha⟩ : ∃ a, a = zA L g := ⟨_, rfl⟩
  obtain ⟨d, hd⟩ : ∃ d : Nat, d = zB L g - zA L g := ⟨_, rfl⟩
  have HDI := Lib.hid (show ((zB L g : Nat) : Int) - ((zA L g : Nat) : Int) = (d : Int) by omega)
  have HA := Lib.hid ha
  have HD := Lib.hid hd
  have ha16 : a ≤ 16 := by omega
  have hd16 : d ≤ 16 := by omega
  clear hn hn1 hm1 hS hN he hz ha hd hl12
  go_enter Try.func76, Try.ntmps76
  go_wp2_with fail
  refine (rIsSet_any A1 n1 c1 S g _ hI HN1.out HM1.out (by omega) (by omega)).mono ?_
  rintro e w1 ⟨rfl, hb1⟩
  rw [HS.out]
  go_wp2_with fail
  refine (rState_ok g _ 0 c L _ (hR.bel hb1) Hn.out (by unfold maxLen; omega) HE.out).mono ?_
  rintro e w2 ⟨rfl, hb2⟩
  rw [HDI.out, ← HA.out]
  have hb12 := hb1.trans hb2
  have Held := Lib.hid (fun w' (h : Bel (w2.alloc (.cells #[.bool true, .bool false] 4)) w') => boolcells w2 4 h)
  go_wp2
  go_loopw [28] (fun i wr => ∃ k : Nat, k ≤ 2 ∧ i = .int .i64 k ∧ Bel (w2.alloc (.cells #[.bool true, .bool false] 4)) wr) (fun i _ => 2 - (intOf i).toNat)
  case atStart => exact ⟨0, by omega, rfl, Bel.refl _⟩
  case round =>
    obtain ⟨k, hk, rfl, hb⟩ := hrel
    obtain ⟨q0, q1⟩ := Held.out _ hb
    by_cases hlt : k < 2
    · obtain ⟨y, hy⟩ : ∃ y : Bool, wr.cell? ⟨w2.heap.size, k, none⟩ = some (.bool y) := by
        rcases (by omega : k = 0 ∨ k = 1) with rfl | rfl
        · exact ⟨_, q0⟩
        · exact ⟨_, q1⟩
      have hk2 : (k : Int) < 2 := by omega
      clear q0 q1
      have hbase : w2.heap.size + 1 ≤ wr.heap.size := by have h2 := hb.size; simp at h2; omega
      have hX3 := Lib.hid (show 0 + 1 ≤ maxLen by unfold maxLen; omega)
      have hlit : Hid ((wr.alloc (.cells #[] 38)).ownsRow (w2.heap.size + 1) 38 2 (.slice (some ⟨wr.heap.size, 0, none⟩) 0 0) 0 []) := World.ownsRow_lit wr #[] 0 hbase (by unfold maxLen; omega) rfl
      have hX4 := Lib.hid (show (0 + 1) * 32 ≤ 140737488355328 by omega)
      have hbw : Bel w wr := (hb12.alloc _).trans hb
      go_wp2_with (first
        | (at_builtin; go_loud (refine wpList_app0 rfl (.tmp 34) (.tmp 35) rfl ⟨wr.heap.size, 0, none⟩ _ _ (by rfl) (by rfl) ?_))
        | (at_builtin; go_loud (refine wpList_append_lies _ rfl (.tmp 36) (.tmp 40) 22 rfl (w2.heap.size + 1) 38 i0 _ 2 32 Try.underlying22 hi hz0 hz1 hz2 rfl (by decide) _ 0 [] (by rfl) (hlit.out.alloc _) ⟨(wr.alloc (.cells #[] 38)).heap.size, 0, none⟩ 1 1 [.slice A1 n1 c1, .bool y] (by simp; rfl) rfl (new2 _ _ _ _ _ rfl) (one2 _ _ _ _) (by omega) hX3.out hX4.out (by simp; omega) _ rfl ?_); intro g4 cap4 w4 hown4 hgr4 hat4 hlt4; have hB4 := grown_own (w := w2.alloc (.cells #[.bool true, .bool false] 4)) ((hb.alloc _).alloc _) hlit.out (by simp) hgr4; clear hgr4 hat4 hlt4)
        | fail)
      have hbw4 : Bel w w4 := (hb12.alloc _).trans hB4
      have hLong := Ans.longer (w := w) (b := 0) (o := 0) (L := L) (vs := []) (S := S) (y := y) (.inl (List.eq_nil_of_length_eq_zero Hn.out)) (fun j hj => by rw [Hn.out] at hj; omega) (by rw [Hn.out]; rfl) hbw4 (by rw [Hn.out]; exact hown4) hI HN1.out HM1.out
      clear hown4
      obtain ⟨M, hM⟩ : ∃ M, M = L ++ [(S, y)] := ⟨_, rfl⟩
      have hME := Lib.hid (show errA (g : Int) M = 0 by rw [hM]; exact longer_err HE.out (by rw [Hn.out]; omega) HS.out)
      have hML := Lib.hid (show M.length = 0 + 1 by rw [hM, List.length_append, Hn.out]; rfl)
      have hlt' := HNN.out y
      rw [← hM, ← HD.out, ← HA.out] at hlt'
      rw [← hM] at hLong
      clear hM
      have hzM := z_bd M g
      obtain ⟨a', ha'⟩ : ∃ a', a' = zA M g := ⟨_, rfl⟩
      obtain ⟨d', hd'⟩ : ∃ d' : Nat, d' = zB M g - zA M g := ⟨_, rfl⟩
      have HDI' := Lib.hid (show ((zB M g : Nat) : Int) - ((zA M g : Nat) : Int) = (d' : Int) by omega)
      have HA' := Lib.hid ha'
      rw [← hd', ← ha'] at hlt'
      have ha16' : a' ≤ 16 := by omega
      have hd16' : d' ≤ 16 := by omega
      obtain ⟨q, hq⟩ : ∃ q, q = nd a d := ⟨_, rfl⟩
      obtain ⟨q', hq'⟩ : ∃ q, q = nd a' d' := ⟨_, rfl⟩
      rw [← hq, ← hq'] at hlt'
      have HQ := Lib.hid hq
      have HQ' := Lib.hid hq'
      have hqi : (q' : Int) < (q : Int) := by omega
      clear hzM ha' hd' hq hq' hy
      go_wp2_with fail
      refine (rState_ok g _ (0 + 1) cap4 M _ hLong hML.out (by unfold maxLen; omega) hME.out).mono ?_
      rintro e w5 ⟨rfl, hb5⟩
      rw [HDI'.out, ← HA'.out]
      go_wp2_with fail
      refine (rneed_any a' d' _ ha16' hd16').mono ?_
      rintro e w6 ⟨rfl, hb6⟩
      rw [← HQ'.out]
      go_wp2_with fail
      refine (rneed_any a d _ ha16 hd16).mono ?_
      rintro e w7 ⟨rfl, hb7⟩
      rw [← HQ.out]
      have hB7 := ((hB4.trans hb5).trans hb6).trans hb7
      go_wp2
      go_roundw
      case rel => exact ⟨k + 1, by omega, by go_num, hB7⟩
      case measure => simp [intOf]; omega
    · obtain rfl : k = 2 := by omega
      clear q0 q1
      go_wp2
      go_ret
      exact ⟨rfl, by (repeat (first | exact Bel.refl _ | assumption | refine Bel.drew ?_ | refine Bel.drewN ?_ _ | refine Bel.alloc ?_ _ | refine Bel.setCell ?_ (by first | omega | (simp; done) | (simp; omega) | (simp at *; omega)) _ | refine Bel.trans ?_ (by assumption)))⟩
end Go.Proofs.Ytogeackcnmeooaa
