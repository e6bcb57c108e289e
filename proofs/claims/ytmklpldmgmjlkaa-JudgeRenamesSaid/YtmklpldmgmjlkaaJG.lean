/- Judging: find, isEnough, need. -/
import Derived.Test.YtmklpldmgmjlkaaJF
import Derived.Laws.EntriesVeiled
namespace Go.Proofs.Ytmklpldmgmjlkaa
open Go.RowKit Go.Maps

def Finds (q a b : Nat) (w : World) (e : Ending) (w' : World) : Prop :=
  ∃ (x y : Nat) (ok : Bool), e = .returned (.agg #[.int .i64 (x : Int), .int .i64 (y : Int), .bool ok]) ∧ Right q a b x y ok ∧ Bel w w'
theorem made_inv (w : World) (o o' : Obj) : Inv (((((w.alloc o).alloc o').alloc (.map #[] 0)).alloc (.cells #[.map (some (w.heap.size + 1 + 1))] 80)).alloc
    (.cells #[.func (Fn.func 56) #[] #[.pointer (some ⟨w.heap.size + 1 + 1 + 1, 0, none⟩), .pointer (some ⟨w.heap.size + 1 + 1 + 1 + 1, 0, none⟩)]] 66)) (w.heap.size + 1 + 1) (w.heap.size + 1 + 1 + 1) (w.heap.size + 1 + 1 + 1 + 1) := by
  refine ⟨?_, by go_simp, by go_simp, by omega, by omega, by simp <;> omega, by simp <;> omega⟩
  have h := World.ownsMap_made ((w.alloc o).alloc o') Try.prog 82 qR
  have e : ((w.alloc o).alloc o').heap.size = w.heap.size + 1 + 1 := by simp
  rw [e] at h
  exact Known.of ((h.alloc _).alloc _) Good.nil
set_option maxRecDepth 100000 in
set_option maxHeartbeats 1000000 in
theorem find_any (a b q : Nat) (w : World) (hm : a + b ≤ 48) (hn : ¬ a + b ≤ 1) (hq : q ≤ 12) :
    Calls Try.prog 44 #[.agg #[.int .i64 (a : Int), .int .i64 (b : Int)], .int .i64 (q : Int)] w (Finds q a b w) := by
  have hmf : ∀ (fn : Fn) (first cap : Array Value) (w : World), (Instr.makeFunc fn first cap).run Try.prog w = .ok (.func fn first cap) w := fun _ _ _ _ => rfl
  have hmm := @run_makeMap Try.prog
  go_enter Try.func44, Try.ntmps44
  go_wp2_with fail
  refine (seek_any (w.heap.size + 1 + 1) (w.heap.size + 1 + 1 + 1) (w.heap.size + 1 + 1 + 1 + 1) q hq a b _ hm hn (made_inv w _ _)).mono ?_
  rintro e w1 ⟨x, y, ok, rfl, hr, hI1, hg1⟩
  have HR := Lib.hid hr
  have hB : Below w.heap.size w w1 := hg1.below ((((((Bel.refl w).alloc _).alloc _).alloc _).alloc _).alloc _) (by simp <;> omega) (by omega)
  have hr0 : w1.cell? ⟨w.heap.size + 1, 0, none⟩ = some (.int .i64 0) := (hg1.cell (by simp <;> omega) (by omega) 0).trans (by go_simp)
  have hr1 : w1.cell? ⟨w.heap.size + 1, 1, none⟩ = some (.int .i64 0) := (hg1.cell (by simp <;> omega) (by omega) 1).trans (by go_simp)
  have hr2 : w1.cell? ⟨w.heap.size + 1, 2, none⟩ = some (.bool false) := (hg1.cell (by simp <;> omega) (by omega) 2).trans (by go_simp)
  have hf0 : ∀ o, w1.frozen? ⟨w.heap.size + 1, o, none⟩ = false := fun o => (hg1.frozen (by simp <;> omega) (by omega) o).trans (by go_simp)
  have hf00 := hf0 0
  have hf01 := hf0 1
  have hf02 := hf0 2
  clear hr hg1 hI1 hf0 hmm hmf
  go_wp2
  obtain ⟨q0, q1, q2⟩ := stored3 (x := .int .i64 (x : Int)) (y := .int .i64 (y : Int)) (z := .bool ok) hr0 hr1 hr2
  refine bodyPost_ret (v := .agg #[.int .i64 (x : Int), .int .i64 (y : Int), .bool ok]) (by simp [results, Try.results44, go_sem, q0, q1, q2]) rfl ⟨x, y, ok, rfl, HR.out, ?_⟩
  exact Below.trans hB (below3 _ _ _ _ _)

theorem enough_yes (a b q : Nat) (w : World) (h : a + b ≤ 1) :
    Calls Try.prog 39 #[.agg #[.int .i64 (a : Int), .int .i64 (b : Int)], .int .i64 (q : Int)] w fun e w' => e = .returned (.bool (en q a b)) ∧ Bel w w' := by
  have HE := Lib.hid (en_settled (q := q) h)
  go_enter Try.func39, Try.ntmps39
  go_wp2_with fail
  refine (settled_yes a b _ h).mono ?_
  rintro e w1 ⟨rfl, hb1⟩
  have hb : Bel w w1 := by (repeat (first | exact Bel.refl _ | assumption | refine Bel.drew ?_ | refine Bel.drewN ?_ _ | refine Bel.alloc ?_ _ | refine Bel.setCell ?_ (by first | omega | (simp; done) | (simp; omega) | (simp at *; omega)) _ | refine Bel.trans ?_ (by assumption)))
  go_wp2
  go_ret
  exact ⟨ret_bool HE.out.symm, hb⟩
set_option maxRecDepth 100000 in
theorem enough_no (a b q : Nat) (w : World) (hm : a + b ≤ 48) (h : ¬ a + b ≤ 1) (hq : q ≤ 12) :
    Calls Try.prog 39 #[.agg #[.int .i64 (a : Int), .int .i64 (b : Int)], .int .i64 (q : Int)] w fun e w' => e = .returned (.bool (en q a b)) ∧ Bel w w' := by
  go_enter Try.func39, Try.ntmps39
  go_wp2_with fail
  refine (settled_no a b _ h hm).mono ?_
  rintro e w1 ⟨rfl, hb1⟩
  have hb : Bel w w1 := by (repeat (first | exact Bel.refl _ | assumption | refine Bel.drew ?_ | refine Bel.drewN ?_ _ | refine Bel.alloc ?_ _ | refine Bel.setCell ?_ (by first | omega | (simp; done) | (simp; omega) | (simp at *; omega)) _ | refine Bel.trans ?_ (by assumption)))
  obtain ⟨b0, b1⟩ := box2 hb1
  go_wp2_with fail
  refine (find_any a b q _ hm h hq).mono ?_
  rintro e w2 ⟨x, y, ok, rfl, hr, hb2⟩
  have HR := Lib.hid hr
  have hfo := field_ok
  clear hr b0 b1 hb1
  go_wp2
  go_ret
  exact ⟨ret_bool HR.out.1, hb.trans hb2⟩
theorem enough_any (a b q : Nat) (w : World) (hm : a + b ≤ 48) (hq : q ≤ 12) :
    Calls Try.prog 39 #[.agg #[.int .i64 (a : Int), .int .i64 (b : Int)], .int .i64 (q : Int)] w fun e w' => e = .returned (.bool (en q a b)) ∧ Bel w w' := by
  by_cases h : a + b ≤ 1
  · exact enough_yes a b q w h
  · exact enough_no a b q w hm h hq
set_option maxRecDepth 100000 in
theorem need_any (a b : Nat) (w : World) (ha : a ≤ 16) (hb : b ≤ 16) :
    Calls Try.prog 28 #[.agg #[.int .i64 (a : Int), .int .i64 (b : Int)]] w fun e w' => e = .returned (.int .i64 ((nd a b : Nat) : Int)) ∧ Bel w w' := by
  obtain ⟨n1, n2, n3⟩ := nd_spec ha hb
  have hle := fun q => nd_le (q := q) ha hb
  have HL := Lib.hid hle
  clear n3 hle n1
  generalize hn : nd a b = n at *
  clear hn
  go_enter Try.func28, Try.ntmps28
  go_wp2
  go_loopw [3] (fun i wr => ∃ k : Nat, k ≤ n ∧ i = .int .i64 k ∧ Bel (w.alloc (.cells #[.int .i64 (a : Int), .int .i64 (b : Int)] 52)) wr) (fun i _ => n - (intOf i).toNat)
  case atStart => exact ⟨0, Nat.zero_le _, rfl, Bel.refl _⟩
  case round =>
    obtain ⟨k, hk, rfl, hbr⟩ := hrel
    obtain ⟨b0, b1⟩ := box2 hbr
    have hk12 : (k : Int) ≤ 12 := by omega
    go_wp2_with fail
    refine (enough_any a b k _ (by omega) (by omega)).mono ?_
    rintro e w1 ⟨rfl, hb1⟩
    have hb2 := hbr.trans hb1
    clear b0 b1 hb1 hbr
    by_cases hlt : k < n
    · have he : en k a b = false := by
        cases he : en k a b
        · rfl
        · have := (HL.out k).1 he; omega
      rw [he]
      clear he
      go_wp2
      go_roundw
      case rel => exact ⟨k + 1, by omega, by go_num, hb2⟩
      case measure => simp [intOf]; omega
    · obtain rfl : k = n := by omega
      have he : en k a b = true := (HL.out k).2 (Nat.le_refl _)
      rw [he]
      clear he
      go_wp2
      go_ret
      exact ⟨rfl, by (repeat (first | exact Bel.refl _ | assumption | refine Bel.drew ?_ | refine Bel.drewN ?_ _ | refine Bel.alloc ?_ _ | refine Bel.setCell ?_ (by first | omega | (simp; done) | (simp; omega) | (simp at *; omega)) _ | refine Bel.trans ?_ (by assumption)))⟩
end Go.Proofs.Ytmklpldmgmjlkaa

