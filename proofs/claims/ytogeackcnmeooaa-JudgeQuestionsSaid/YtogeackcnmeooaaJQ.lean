/- Judging: Question, and the document's HasQuestion. -/
import Derived.Test.YtogeackcnmeooaaJP
namespace Go.Proofs.Ytogeackcnmeooaa
open Go.RowKit

/-- What Question answers. -/
def Quest (a b q : Int) (w : World) (e : Ending) (w' : World) : Prop :=
  ∃ (x y : Int) (ok : Bool), e = .returned (.tuple #[.int .i64 x, .int .i64 y, .bool ok, .int .i64 (errQ a b q)]) ∧ Bel w w' ∧
    ok = (decide (inS a b ∧ 0 ≤ q ∧ q ≤ 12 ∧ 1 < a + b) && en q.toNat a.toNat b.toNat) ∧ (ok = true → chkV a b x y q = 0) ∧ (ok = false → x = 0 ∧ y = 0)
theorem quest_err (a b q : Int) (w : World) (h : ¬ (inS a b ∧ 0 ≤ q ∧ q ≤ 12)) : Calls Try.prog 41 #[.int .i64 a, .int .i64 b, .int .i64 q] w (Quest a b q w) := by
  have HE := Lib.hid (errQ_no h)
  have HN := Lib.hid (decide_eq_false (fun k : inS a b ∧ 0 ≤ q ∧ q ≤ 12 ∧ 1 < a + b => h ⟨k.1, k.2.1, k.2.2.1⟩))
  clear h
  go_enter Try.func41, Try.ntmps41
  go_wp2_with (go_at_call 65; refine (valQ_any _ _ _ _).mono ?_; rintro e w1 ⟨rfl, rfl⟩; rw [HE.out])
  exact bodyPost_ret (v := .tuple #[.int .i64 0, .int .i64 0, .bool false, .int .i64 1]) (by simp [results, Try.results41, go_sem]) rfl ⟨0, 0, false, by rw [HE.out], Bel.refl _, by rw [HN.out]; rfl, (fun h => by cases h), fun _ => ⟨rfl, rfl⟩⟩
set_option maxHeartbeats 1000000 in
theorem quest_none (a b q : Nat) (w : World) (ha : a ≤ 16) (hb : b ≤ 16) (hq : q ≤ 12) (hs : a + b ≤ 1) : Calls Try.prog 41 #[.int .i64 (a : Int), .int .i64 (b : Int), .int .i64 (q : Int)] w (Quest a b q w) := by
  have HE := Lib.hid (errQ_ok (inS_of ha hb) (show (0 : Int) ≤ (q : Int) by omega) (by omega))
  have HN := Lib.hid (decide_eq_false (fun k : inS (a : Int) b ∧ (0 : Int) ≤ q ∧ (q : Int) ≤ 12 ∧ 1 < (a : Int) + b => by have := k.2.2.2; omega))
  go_enter Try.func41, Try.ntmps41
  go_wp2_with (go_at_call 65; refine (valQ_any _ _ _ _).mono ?_; rintro e w1 ⟨rfl, rfl⟩; rw [HE.out])
  refine (settled_yes a b _ hs).mono ?_
  rintro e w1 ⟨rfl, hb1⟩
  go_wp2
  exact bodyPost_ret (v := .tuple #[.int .i64 0, .int .i64 0, .bool false, .int .i64 0]) (by simp [results, Try.results41, go_sem]) rfl ⟨0, 0, false, by rw [HE.out], by (repeat (first | exact Bel.refl _ | assumption | refine Bel.drew ?_ | refine Bel.drewN ?_ _ | refine Bel.alloc ?_ _ | refine Bel.setCell ?_ (by first | omega | (simp; done) | (simp; omega) | (simp at *; omega)) _ | refine Bel.trans ?_ (by assumption))), by rw [HN.out]; rfl, (fun h => by cases h), fun _ => ⟨rfl, rfl⟩⟩
theorem box3 {w : World} {x y : Int} {z : Bool} {ty : TypeId} {w' : World} (h : Bel (w.alloc (.cells #[.int .i64 x, .int .i64 y, .bool z] ty)) w') : w'.cell? ⟨w.heap.size, 0, none⟩ = some (.int .i64 x) ∧ w'.cell? ⟨w.heap.size, 1, none⟩ = some (.int .i64 y) ∧ w'.cell? ⟨w.heap.size, 2, none⟩ = some (.bool z) := by
  refine ⟨?_, ?_, ?_⟩ <;> (rw [h.use.1 _ _ (by simp)]; go_simp)
set_option maxRecDepth 100000 in
set_option maxHeartbeats 1000000 in
theorem quest_some (a b q : Nat) (w : World) (ha : a ≤ 16) (hb : b ≤ 16) (hq : q ≤ 12) (hs : ¬ a + b ≤ 1) : Calls Try.prog 41 #[.int .i64 (a : Int), .int .i64 (b : Int), .int .i64 (q : Int)] w (Quest a b q w) := by
  have HE := Lib.hid (errQ_ok (inS_of ha hb) (show (0 : Int) ≤ (q : Int) by omega) (by omega))
  have HN := Lib.hid (decide_eq_true (show inS (a : Int) b ∧ (0 : Int) ≤ q ∧ (q : Int) ≤ 12 ∧ 1 < (a : Int) + b from ⟨inS_of ha hb, by omega, by omega, by omega⟩))
  go_enter Try.func41, Try.ntmps41
  go_wp2_with (go_at_call 65; refine (valQ_any _ _ _ _).mono ?_; rintro e w1 ⟨rfl, rfl⟩; rw [HE.out])
  refine (settled_no a b _ hs (by omega)).mono ?_
  rintro e w1 ⟨rfl, hb1⟩
  obtain ⟨c1, c2⟩ := box2 hb1
  have hbw : Bel w w1 := by (repeat (first | exact Bel.refl _ | assumption | refine Bel.drew ?_ | refine Bel.drewN ?_ _ | refine Bel.alloc ?_ _ | refine Bel.setCell ?_ (by first | omega | (simp; done) | (simp; omega) | (simp at *; omega)) _ | refine Bel.trans ?_ (by assumption)))
  clear hb1
  go_wp2_with fail
  refine (find_any a b q _ (by omega) hs hq).mono ?_
  rintro e w2 ⟨x, y, ok, rfl, hr, hb2⟩
  have hbw2 := hbw.trans hb2
  have HR := Lib.hid hr
  clear hr c1 c2 hb2 hbw
  go_wp2
  go_quiet (fail)
  go_wp2
  refine bodyPost_ret (v := .tuple #[.int .i64 (x : Int), .int .i64 (y : Int), .bool ok, .int .i64 0]) (by simp [results, Try.results41, go_sem]) rfl ⟨x, y, ok, by rw [HE.out], by (repeat (first | exact Bel.refl _ | assumption | refine Bel.drew ?_ | refine Bel.drewN ?_ _ | refine Bel.alloc ?_ _ | refine Bel.setCell ?_ (by first | omega | (simp; done) | (simp; omega) | (simp at *; omega)) _ | refine Bel.trans ?_ (by assumption))), ?_, ?_, ?_⟩
  · rw [HN.out, HR.out.1]; rfl
  · intro h
    obtain ⟨h1, h2, h3, h4⟩ := HR.out.2.1 h
    obtain ⟨p, rfl⟩ : ∃ p, q = p + 1 := ⟨q - 1, by omega⟩
    rw [chk_ok ha hb h1 h2 hq]
    simp at h4
    rw [if_pos h4]
  · intro h
    obtain ⟨h1, h2⟩ := HR.out.2.2 h
    omega
theorem quest_any (a b q : Int) (w : World) : Calls Try.prog 41 #[.int .i64 a, .int .i64 b, .int .i64 q] w (Quest a b q w) := by
  by_cases h : inS a b ∧ 0 ≤ q ∧ q ≤ 12
  · obtain ⟨h1, h2, h3⟩ := h
    obtain ⟨a, b, rfl, rfl, ha, hb⟩ := inS_nat h1
    obtain ⟨q, rfl⟩ := Int.eq_ofNat_of_zero_le h2
    by_cases hs : a + b ≤ 1
    · exact quest_none a b q w ha hb (by omega) hs
    · exact quest_some a b q w ha hb (by omega) hs
  · exact quest_err a b q w h
theorem rHas_any (a b q : Int) (w : World) : Calls Try.prog 40 #[.int .i64 a, .int .i64 b, .int .i64 q] w fun e w' => e = .returned (.tuple #[.bool (decide (inS a b ∧ 0 ≤ q ∧ q ≤ 12 ∧ 1 < a + b) && en q.toNat a.toNat b.toNat), .int .i64 (errQ a b q)]) ∧ Bel w w' := by
  by_cases h : inS a b ∧ 0 ≤ q ∧ q ≤ 12
  · obtain ⟨h1, h2, h3⟩ := h
    have HE := errQ_ok h1 h2 h3
    rw [HE]
    obtain ⟨a, b, rfl, rfl, ha, hb⟩ := inS_nat h1
    obtain ⟨q, rfl⟩ := Int.eq_ofNat_of_zero_le h2
    have hen : en ((q : Int)).toNat ((a : Int)).toNat ((b : Int)).toNat = en q a b := rfl
    rw [hen]
    by_cases hs : 1 < (a : Int) + b
    · rw [decide_eq_true (show inS (a : Int) b ∧ (0 : Int) ≤ q ∧ (q : Int) ≤ 12 ∧ 1 < (a : Int) + b from ⟨h1, h2, h3, hs⟩), Bool.true_and]
      have hdt : decide (1 < (a : Int) + b) = true := decide_eq_true hs
      have hai : (a : Int) ≤ 16 := by omega
      have hbi : (b : Int) ≤ 16 := by omega
      clear HE hen h1 h2
      generalize hv : en q a b = v
      have HV := Lib.hid hv
      clear hv
      go_enter Try.func40, Try.ntmps40
      go_wp2_with fail
      refine (rEnough_ok a b q _ ha hb (by omega)).mono ?_
      rintro e w1 ⟨rfl, hb1⟩
      rw [HV.out]
      cases v
      · go_wp2
        go_ret2
        exact ⟨rfl, hb1⟩
      · go_wp2
        go_ret2
        exact ⟨rfl, hb1⟩
    · rw [decide_eq_false (fun k : inS (a : Int) b ∧ (0 : Int) ≤ q ∧ (q : Int) ≤ 12 ∧ 1 < (a : Int) + b => hs k.2.2.2), Bool.false_and]
      have hdt : decide (1 < (a : Int) + b) = false := decide_eq_false hs
      have hai : (a : Int) ≤ 16 := by omega
      have hbi : (b : Int) ≤ 16 := by omega
      clear HE hen h1 h2
      generalize hv : en q a b = v
      have HV := Lib.hid hv
      clear hv
      go_enter Try.func40, Try.ntmps40
      go_wp2_with fail
      refine (rEnough_ok a b q _ ha hb (by omega)).mono ?_
      rintro e w1 ⟨rfl, hb1⟩
      rw [HV.out]
      cases v
      · go_wp2
        go_ret2
        exact ⟨rfl, hb1⟩
      · go_wp2
        go_ret2
        exact ⟨rfl, hb1⟩
  · have HE := errQ_no h
    rw [HE, decide_eq_false (fun k : inS a b ∧ 0 ≤ q ∧ q ≤ 12 ∧ 1 < a + b => h ⟨k.1, k.2.1, k.2.2.1⟩), Bool.false_and]
    clear HE
    have HH := Lib.hid h
    clear h
    go_enter Try.func40, Try.ntmps40
    go_wp2_with fail
    refine (rEnough_err a b q _ HH.out).mono ?_
    rintro e w1 ⟨rfl, hb1⟩
    go_wp2
    go_ret2
    exact ⟨rfl, hb1⟩
end Go.Proofs.Ytogeackcnmeooaa
