/- Settle and Wash, and the masses that the document gives. -/
import Derived.Test.YtmbhhooiaonhjaaH
namespace Go.Proofs.Ytmbhhooiaonhjaa
open Go.RowKit

theorem errV_zero {gs : List (Int × Int)} (h : errV gs = 0) : gs.length ≤ 6 ∧ ∀ g ∈ gs, (1 ≤ g.1 ∧ g.1 ≤ 20) ∧ 1 ≤ g.2 ∧ g.2 ≤ 100 := by
  unfold errV at h
  split at h
  · omega
  · split at h
    · rename_i h1 h2
      exact ⟨by omega, fun g hg => by have := scan_mem h2 g hg; omega⟩
    · omega
theorem errV_cases (gs : List (Int × Int)) : errV gs = 0 ∨ errV gs = 1 ∨ errV gs = 3 := by
  unfold errV
  split
  · simp
  · split <;> simp
theorem potOk_pot {gs : List (Int × Int)} (h : errV gs = 0) : PotOk (pot gs) := by
  intro p hp
  obtain ⟨g, hg, rfl⟩ := List.mem_map.1 hp
  have := (errV_zero h).2 g hg
  simp only
  omega

/-- Settle's answer: two new slices of fractions. -/
def TwoRows (w : World) (n : Nat) (xs ys : List (Int × Int)) (e : Ending) (w' : World) : Prop :=
  ∃ g g', e = .returned (.tuple #[.slice (some ⟨g, 0, none⟩) n n, .slice (some ⟨g', 0, none⟩) n n, .int .i64 0]) ∧ w.heap.size ≤ g ∧ w.heap.size ≤ g' ∧ Bel w w' ∧ Row w' g (n * 2) (n * 2) (flat2 xs) ∧ Row w' g' (n * 2) (n * 2) (flat2 ys)
def sunkL (gs : List (Int × Int)) (t d : Int) : List (Int × Int) := (pot gs).map (sinkP t d)
def stayL (gs : List (Int × Int)) (t d : Int) : List (Int × Int) := ((pot gs).map (stayP t d)).map fun p => (p.2.1, p.2.2)

set_option maxHeartbeats 400000 in
theorem settle_ok (A : Option Addr) (n c : Nat) (gs : List (Int × Int)) (t d : Int) (w : World) (hR : Prs w A gs) (hn : gs.length = n) (he : errV gs = 0) (g1 : within t 0 100 = true) (g2 : within d 1 20 = true) :
    Calls Try.prog 28 #[.slice A n c, .int .i64 t, .int .i64 d] w (TwoRows w n (sunkL gs t d) (stayL gs t d)) := by
  obtain ⟨h6, -⟩ := errV_zero he
  have hp := potOk_pot he
  obtain ⟨t1, t2⟩ := within_iff.1 g1
  obtain ⟨d1, d2⟩ := within_iff.1 g2
  have h7 : n ≤ 6 := by omega
  have Hn := Lib.hid hn; clear hn
  have HE := Lib.hid he; clear he
  have hlp : (pot gs).length = n := by simp [pot, Hn.out]
  have hlq : ((pot gs).map (stayP t d)).length = n := by simp [hlp]
  have Hlp := Lib.hid hlp; clear hlp
  have Hlq := Lib.hid hlq; clear hlq
  go_enter Try.func28, Try.ntmps28
  go_wp2_with fail
  refine (validate_any A n c gs _ hR Hn.out (by unfold maxLen; omega)).mono ?_
  rintro e w1 ⟨rfl, hb1⟩
  rw [HE.out]
  go_wp2_with (first | (go_at_call 43; refine (isTime_any _ _).mono ?_; rintro e w' ⟨rfl, rfl⟩) | (go_at_call 44; refine (isDepth_any _ _).mono ?_; rintro e w' ⟨rfl, rfl⟩))
  refine (pour_any A n c gs _ (hR.bel hb1) Hn.out (by omega)).mono ?_
  rintro e w2 ⟨g, rfl, hg, hb2, hr2⟩
  go_wp2_with fail
  refine (settle_any g n n (pot gs) t d _ hr2 Hlp.out (by omega) hp t1 t2 d1 d2).mono ?_
  rintro e w3 ⟨g', rfl, hg', hgb, hr3, hs3⟩
  go_wp2_with fail
  refine (leftIn_any g n n _ _ hr3 Hlq.out (by omega)).mono ?_
  rintro e w4 ⟨g'', rfl, hg'', hb4, hr4⟩
  go_wp2
  go_ret3
  have hb12 := hb1.trans hb2
  have hs1 := hb1.size
  have hs2 := hb2.size
  have hs3' := hgb.size
  have hb13 : Bel w w3 := Bel.grown hb12 hgb (by omega)
  refine ⟨g', g'', rfl, by omega, by omega, hb13.trans hb4, hs3.bel hb4, hr4⟩

set_option maxHeartbeats 400000 in
theorem settle_err (A : Option Addr) (n c : Nat) (gs : List (Int × Int)) (t d : Int) (w : World) (hR : Prs w A gs) (hn : gs.length = n) (hmax : n ≤ maxLen) (x : Int)
    (hx : (errV gs = x ∧ x ≠ 0) ∨ (errV gs = 0 ∧ (within t 0 100 && within d 1 20) = false ∧ x = 1)) :
    Calls Try.prog 28 #[.slice A n c, .int .i64 t, .int .i64 d] w fun e w' => e = .returned (.tuple #[.slice none 0 0, .slice none 0 0, .int .i64 x]) ∧ Bel w w' := by
  rcases hx with ⟨hx, h0⟩ | ⟨hx, h0, rfl⟩
  · have HX := Lib.hid hx; clear hx
    have hne : (x != 0) = true := by simpa using h0
    clear h0
    go_enter Try.func28, Try.ntmps28
    go_wp2_with fail
    refine (validate_any A n c gs _ hR hn hmax).mono ?_
    rintro e w1 ⟨rfl, hb1⟩
    rw [HX.out]
    go_wp2
    go_ret3
    exact ⟨rfl, hb1⟩
  · have HX := Lib.hid hx; clear hx
    cases g1 : within t 0 100 <;> cases g2 : within d 1 20
    case true.true => simp [g1, g2] at h0
    all_goals
      clear h0
      go_enter Try.func28, Try.ntmps28
      go_wp2_with fail
      refine (validate_any A n c gs _ hR hn hmax).mono ?_
      rintro e w1 ⟨rfl, hb1⟩
      rw [HX.out]
      go_wp2_with (first | (go_at_call 43; refine (isTime_any _ _).mono ?_; rintro e w' ⟨rfl, rfl⟩) | (go_at_call 44; refine (isDepth_any _ _).mono ?_; rintro e w' ⟨rfl, rfl⟩))
      go_ret3
      exact ⟨rfl, hb1⟩
end Go.Proofs.Ytmbhhooiaonhjaa

