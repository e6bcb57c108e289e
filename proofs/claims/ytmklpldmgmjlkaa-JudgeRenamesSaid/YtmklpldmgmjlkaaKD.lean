/- Records: the grade; the examples that the document gives. -/
import Derived.Test.YtmklpldmgmjlkaaKC
namespace Go.Proofs.Ytmklpldmgmjlkaa
open Go.RowKit

def gradeV : List Int → Value
  | [x] => .tuple #[.int .i64 x, .bool true, .int .i64 0]
  | _ => .tuple #[.int .i64 0, .bool false, .int .i64 0]
theorem gradeV_one (x : Int) : gradeV [x] = .tuple #[.int .i64 x, .bool true, .int .i64 0] := rfl
theorem gradeV_no {l : List Int} (h : l.length ≠ 1) : gradeV l = .tuple #[.int .i64 0, .bool false, .int .i64 0] := by
  match l, h with
  | [], _ => rfl
  | [_], h => exact absurd rfl h
  | _ :: _ :: _, _ => rfl
theorem errA_nat {g : Int} {L : List An} (h : errA g L = 0) : ∃ m : Nat, g = m ∧ 1 ≤ m ∧ m ≤ 16 := by
  obtain ⟨⟨h1, h2⟩, -⟩ := errA_zero h
  exact ⟨g.toNat, by omega, by omega, by omega⟩

theorem wGrade_err (g : Int) (A : Option Addr) (n c : Nat) (L : List An) (w : World) (hR : Ans w A L) (hn : L.length = n) (hmax : n ≤ maxLen) (he : errA g L ≠ 0) :
    Calls Try.prog 15 #[.int .i64 g, .slice A n c] w fun e w' => e = .returned (.tuple #[.int .i64 0, .bool false, .int .i64 (errA g L)]) ∧ Bel w w' := by
  have hne : (errA g L != 0) = true := by simpa using he
  go_enter Try.func15, Try.ntmps15
  go_wp2_with fail
  refine (validate_any g A n c L _ hR hn hmax).mono ?_
  rintro e w1 ⟨rfl, hb1⟩
  go_wp2
  go_ret3
  exact ⟨rfl, hb1⟩
theorem wGrade_ok (g : Nat) (A : Option Addr) (n c : Nat) (L : List An) (w : World) (hR : Ans w A L) (hn : L.length = n) (hmax : n ≤ maxLen) (he : errA (g : Int) L = 0) :
    Calls Try.prog 15 #[.int .i64 (g : Int), .slice A n c] w fun e w' => e = .returned (gradeV (leftL L g 1)) ∧ Bel w w' := by
  obtain ⟨⟨g1, g2⟩, h12, _⟩ := errA_zero he
  have hll := leftL_len L g 1
  have HE := Lib.hid he
  clear he
  obtain ⟨l, hl⟩ : ∃ l, l = leftL L g 1 := ⟨_, rfl⟩
  have HL := Lib.hid hl
  rw [← hl] at hll ⊢
  clear hl
  have Hn := Lib.hid hn; have HX := Lib.hid hmax
  clear hmax
  rw [hn] at h12
  clear hn
  by_cases h1 : l.length = 1
  · obtain ⟨x, rfl⟩ : ∃ x, l = [x] := by
      match l, h1 with
      | [x], _ => exact ⟨x, rfl⟩
    rw [gradeV_one]
    go_enter Try.func15, Try.ntmps15
    go_wp2_with fail
    refine (validate_any g A n c L _ hR Hn.out HX.out).mono ?_
    rintro e w1 ⟨rfl, hb1⟩
    rw [HE.out]
    go_wp2_with fail
    refine (left_any g A n c L 1 _ (hR.bel hb1) Hn.out h12 (by omega)).mono ?_
    rintro e w2 ⟨A', n', c', rfl, hn', hb2, hI⟩
    rw [← HL.out] at hn' hI
    obtain rfl : n' = 1 := hn'
    obtain ⟨b, o, v, rfl, hbl, hg, hc⟩ := hI.at_ (k := 0) (by simp)
    obtain rfl : x = v := by simpa using hg
    have hc0 : w2.cell? ⟨b, o, none⟩ = some (.int .i64 x) := by simpa using hc
    clear hc hg hI
    go_wp2
    go_ret3
    exact ⟨rfl, hb1.trans hb2⟩
  · rw [gradeV_no h1]
    have H1 := Lib.hid h1
    clear h1
    go_enter Try.func15, Try.ntmps15
    go_wp2_with fail
    refine (validate_any g A n c L _ hR Hn.out HX.out).mono ?_
    rintro e w1 ⟨rfl, hb1⟩
    rw [HE.out]
    go_wp2_with fail
    refine (left_any g A n c L 1 _ (hR.bel hb1) Hn.out h12 (by omega)).mono ?_
    rintro e w2 ⟨A', n', c', rfl, hn', hb2, hI⟩
    rw [← HL.out] at hn'
    have hne : ((n' : Int) != 1) = true := by have := H1.out; simp; omega
    clear hn' hI
    go_wp2
    go_ret3
    exact ⟨rfl, hb1.trans hb2⟩

theorem known_rec (w : World) (t t' : TypeId) : Ans (((w.alloc (.cells #[.int .i64 0] t)).alloc (.cells #[.int .i64 0] t)).alloc (.cells #[.slice (some ⟨w.heap.size, 0, none⟩) 1 1, .bool true, .slice (some ⟨w.heap.size + 1, 0, none⟩) 1 1, .bool true] t'))
    (some ⟨w.heap.size + 1 + 1, 0, none⟩) [([0], true), ([0], true)] := by
  have i1 : ∀ b, b = w.heap.size ∨ b = w.heap.size + 1 → Ints (((w.alloc (.cells #[.int .i64 0] t)).alloc (.cells #[.int .i64 0] t)).alloc (.cells #[.slice (some ⟨w.heap.size, 0, none⟩) 1 1, .bool true, .slice (some ⟨w.heap.size + 1, 0, none⟩) 1 1, .bool true] t')) (some ⟨b, 0, none⟩) [0] := by
    intro b hb
    refine .inr ⟨b, 0, rfl, by simp; omega, fun j v hj => ?_⟩
    match j, hj with
    | 0, hj =>
      simp at hj
      subst hj
      rcases hb with rfl | rfl <;> go_simp
  refine .inr ⟨w.heap.size + 1 + 1, 0, rfl, by simp, fun j ns y hj => ?_⟩
  match j, hj with
  | 0, hj =>
    simp at hj
    obtain ⟨rfl, rfl⟩ := hj
    exact ⟨some ⟨w.heap.size, 0, none⟩, 1, 1, by go_simp, by go_simp, i1 _ (.inl rfl), rfl, by decide⟩
  | 1, hj =>
    simp at hj
    obtain ⟨rfl, rfl⟩ := hj
    exact ⟨some ⟨w.heap.size + 1, 0, none⟩, 1, 1, by go_simp, by go_simp, i1 _ (.inr rfl), rfl, by decide⟩
theorem known_grade (w : World) (t t' : TypeId) : Calls Try.prog 15 #[.int .i64 2, .slice (some ⟨w.heap.size + 1 + 1, 0, none⟩) 2 2]
    (((w.alloc (.cells #[.int .i64 0] t)).alloc (.cells #[.int .i64 0] t)).alloc (.cells #[.slice (some ⟨w.heap.size, 0, none⟩) 1 1, .bool true, .slice (some ⟨w.heap.size + 1, 0, none⟩) 1 1, .bool true] t'))
    fun e w' => e = .returned (.tuple #[.int .i64 0, .bool true, .int .i64 0]) ∧ Bel w w' := by
  have h := wGrade_ok 2 (some ⟨w.heap.size + 1 + 1, 0, none⟩) 2 2 [([0], true), ([0], true)] _ (known_rec w t t') rfl (by decide) (by decide)
  have e : leftL [([0], true), ([0], true)] 2 1 = [0] := by decide
  rw [e] at h
  exact h.mono fun e w' ⟨h1, h2⟩ => ⟨h1, ((((Bel.refl w).alloc _).alloc _).alloc _).trans h2⟩
theorem known_need (w : World) : Calls Try.prog 16 #[.int .i64 2, .int .i64 0] w fun e w' => e = .returned (.tuple #[.int .i64 3, .int .i64 0]) ∧ Bel w w' := by
  have h := wNeed_ok 2 0 w (by decide) (by decide)
  have e : nd 2 0 = 3 := by decide
  rw [e] at h
  exact h
theorem known_weight (w : World) : Calls Try.prog 17 #[.int .i64 4, .int .i64 0, .int .i64 5] w fun e w' => e = .returned (.tuple #[.int .i64 24, .int .i64 0]) ∧ Bel w w' := wWeight_ok 4 0 5 w (by decide) (by decide) (by decide)
theorem known_bound (w : World) : Calls Try.prog 18 #[.int .i64 4, .int .i64 0] w fun e w' => e = .returned (.tuple #[.int .i64 5, .int .i64 0]) ∧ Bel w w' := by
  have h := wBound_ok 4 0 w (by decide) (by decide)
  have e : bd 4 0 = 5 := by decide
  rw [e] at h
  exact h

set_option maxRecDepth 100000 in
set_option maxHeartbeats 1000000 in
theorem known_any (w : World) : Calls Try.prog 10 #[] w fun e w' => e = .returned (.bool true) ∧ Bel w w' := by
  go_enter Try.func10, Try.ntmps10
  go_wp2_with fail
  refine (known_grade w _ _).mono ?_
  rintro e w1 ⟨rfl, hb1⟩
  go_wp2_with fail
  refine (known_need _).mono ?_
  rintro e w2 ⟨rfl, hb2⟩
  go_wp2_with fail
  refine (known_weight _).mono ?_
  rintro e w3 ⟨rfl, hb3⟩
  go_wp2_with fail
  refine (known_bound _).mono ?_
  rintro e w4 ⟨rfl, hb4⟩
  go_wp2
  go_ret
  exact ⟨rfl, ((hb1.trans hb2).trans hb3).trans hb4⟩
end Go.Proofs.Ytmklpldmgmjlkaa

