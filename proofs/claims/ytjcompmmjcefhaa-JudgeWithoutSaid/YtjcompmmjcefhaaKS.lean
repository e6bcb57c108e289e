/- Records: judge.Next, walked. -/
import Derived.Test.YtjcompmmjcefhaaKQ
namespace Go.Proofs.Ytjcompmmjcefhaa
open Go.RowKit

def noNext (e : Int) : Value := .tuple #[.slice none 0 0, .bool false, .int .i64 e]
theorem wNext_err (g : Int) (A : Option Addr) (n c : Nat) (L : List An) (w : World) (hR : Ans w A L) (hn : L.length = n) (hmax : n ≤ maxLen) (he : errA g L ≠ 0) :
    Calls Try.prog 20 #[.int .i64 g, .slice A n c] w fun e w' => e = .returned (noNext (errA g L)) ∧ Bel w w' := by
  have hne : (errA g L != 0) = true := by simpa using he
  go_enter Try.func20, Try.ntmps20
  go_wp2_with fail
  refine (validate_any g A n c L _ hR hn hmax).mono ?_
  rintro e w1 ⟨rfl, hb1⟩
  go_wp2
  go_ret3
  exact ⟨rfl, hb1⟩
theorem wNext_full (g : Int) (A : Option Addr) (c : Nat) (L : List An) (w : World) (hR : Ans w A L) (hn : L.length = 12) (he : errA g L = 0) :
    Calls Try.prog 20 #[.int .i64 g, .slice A 12 c] w fun e w' => e = .returned (noNext 10) ∧ Bel w w' := by
  have HE := Lib.hid he
  clear he
  go_enter Try.func20, Try.ntmps20
  go_wp2_with fail
  refine (validate_any g A 12 c L _ hR hn (by unfold maxLen; omega)).mono ?_
  rintro e w1 ⟨rfl, hb1⟩
  rw [HE.out]
  go_wp2
  go_ret3
  exact ⟨rfl, hb1⟩
theorem wNext_settled (g : Nat) (A : Option Addr) (n c : Nat) (L : List An) (w : World) (hR : Ans w A L) (hn : L.length = n) (h12 : n < 12) (he : errA (g : Int) L = 0) (hs : zB L g ≤ 1) :
    Calls Try.prog 20 #[.int .i64 (g : Int), .slice A n c] w fun e w' => e = .returned (noNext 0) ∧ Bel w w' := by
  obtain ⟨⟨g1, g2⟩, hl12, _⟩ := errA_zero he
  have hz := z_bd L g
  have HE := Lib.hid he
  have Hn := Lib.hid hn
  have HL := Lib.hid hl12
  have n12 : ¬ (n : Int) = 12 := by omega
  obtain ⟨b, hb⟩ : ∃ b : Nat, b = zB L g - zA L g := ⟨_, rfl⟩
  have HB := Lib.hid (show dI L g = (b : Int) by unfold dI; omega)
  have hset : zA L g + b ≤ 1 := by omega
  clear hb hz hs
  generalize ha : zA L g = a at *
  have HA := Lib.hid ha
  clear ha he hn hl12
  go_enter Try.func20, Try.ntmps20
  go_wp2_with fail
  refine (validate_any g A n c L _ hR Hn.out (by unfold maxLen; omega)).mono ?_
  rintro e w1 ⟨rfl, hb1⟩
  rw [HE.out]
  go_wp2_with fail
  refine (against_any g A n c L _ (hR.bel hb1) Hn.out (by omega) (by omega)).mono ?_
  rintro e w2 ⟨b0, rfl, hbw, hb2, hr2⟩
  go_wp2_with fail
  refine (stateOf_any g b0 L _ hr2 (by omega) HL.out).mono ?_
  rintro e w3 ⟨rfl, hb3⟩
  rw [HA.out, HB.out]
  go_wp2_with fail
  refine (settled_yes a b _ hset).mono ?_
  rintro e w4 ⟨rfl, hb4⟩
  go_wp2
  go_ret3
  exact ⟨rfl, by (repeat (first | exact Bel.refl _ | assumption | refine Bel.drew ?_ | refine Bel.drewN ?_ _ | refine Bel.alloc ?_ _ | refine Bel.setCell ?_ (by first | omega | (simp; done) | (simp; omega) | (simp at *; omega)) _ | refine Bel.trans ?_ (by assumption)))⟩
/-- What Next returns while several grades are left. -/
def NextOk (w : World) (g : Nat) (L : List An) (e : Ending) (w' : World) : Prop :=
  ∃ (A : Option Addr) (n c x y : Nat), e = .returned (.tuple #[.slice A n c, .bool true, .int .i64 0]) ∧ n = (pk (cntI L) x y g).2.2.length ∧ Bel w w' ∧ Ints w' A (pk (cntI L) x y g).2.2 ∧
    x ≤ zA L g ∧ y ≤ zB L g - zA L g ∧ 1 ≤ nd (zA L g) (zB L g - zA L g) ∧ good (nd (zA L g) (zB L g - zA L g) - 1) (zA L g) (zB L g - zA L g) x y = true

set_option maxRecDepth 100000 in
set_option maxHeartbeats 4000000 in
theorem wNext_ok (g : Nat) (A : Option Addr) (n c : Nat) (L : List An) (w : World) (hR : Ans w A L) (hn : L.length = n) (h12 : n < 12) (he : errA (g : Int) L = 0) (hs : ¬ zB L g ≤ 1) :
    Calls Try.prog 20 #[.int .i64 (g : Int), .slice A n c] w (NextOk w g L) := by
  obtain ⟨⟨g1, g2⟩, hl12, _⟩ := errA_zero he
  have hz := z_bd L g
  have HE := Lib.hid he
  have Hn := Lib.hid hn
  have HL := Lib.hid hl12
  have n12 : ¬ (n : Int) = 12 := by omega
  obtain ⟨b, hb⟩ : ∃ b : Nat, b = zB L g - zA L g := ⟨_, rfl⟩
  have HB := Lib.hid (show dI L g = (b : Int) by unfold dI; omega)
  have hset : ¬ zA L g + b ≤ 1 := by omega
  have h48 : zA L g + b ≤ 16 := by omega
  have HBB := Lib.hid hb
  obtain ⟨a, ha⟩ : ∃ a, a = zA L g := ⟨_, rfl⟩
  have HA := Lib.hid ha
  rw [← ha] at hset h48
  clear hb hz hs ha he hn hl12
  obtain ⟨q1, q2, -⟩ := nd_spec (a := a) (b := b) (by omega) (by omega)
  obtain ⟨q, hq⟩ : ∃ q, q = nd a b := ⟨_, rfl⟩
  rw [← hq] at q1 q2
  have HQ := Lib.hid hq
  have HQ1 := Lib.hid q1
  clear hq q1
  go_enter Try.func20, Try.ntmps20
  go_wp2_with fail
  refine (validate_any g A n c L _ hR Hn.out (by unfold maxLen; omega)).mono ?_
  rintro e w1 ⟨rfl, hb1⟩
  rw [HE.out]
  go_wp2_with fail
  refine (against_any g A n c L _ (hR.bel hb1) Hn.out (by omega) (by omega)).mono ?_
  rintro e w2 ⟨b0, rfl, hbw, hb2, hr2⟩
  go_wp2_with fail
  refine (stateOf_any g b0 L _ hr2 (by omega) HL.out).mono ?_
  rintro e w3 ⟨rfl, hb3⟩
  rw [← HA.out, HB.out]
  have hr3 := hr2.bel hb3
  have Held := Lib.hid (fun w' (h : Bel (w3.alloc (.cells #[.int .i64 (a : Int), .int .i64 (b : Int)] 62)) w') => And.intro ((hr3.alloc _).bel h) (box2 h))
  go_wp2_with fail
  refine (settled_no a b _ hset (by omega)).mono ?_
  rintro e w4 ⟨rfl, hb4⟩
  obtain ⟨c0, c1⟩ := box2 hb4
  clear hr2 hr3
  go_wp2_with fail
  go_region_held3 (fun w' => Bel w w' ∧ Row w' b0 g g (cntI L) ∧ w'.cell? ⟨w3.heap.size, 0, none⟩ = some (.int .i64 (a : Int)) ∧ w'.cell? ⟨w3.heap.size, 1, none⟩ = some (.int .i64 (b : Int))) (exact ⟨by (repeat (first | exact Bel.refl _ | assumption | refine Bel.drew ?_ | refine Bel.drewN ?_ _ | refine Bel.alloc ?_ _ | refine Bel.setCell ?_ (by first | omega | (simp; done) | (simp; omega) | (simp at *; omega)) _ | refine Bel.trans ?_ (by assumption))), Held.out _ (by (repeat (first | exact Bel.refl _ | assumption | refine Bel.drew ?_ | refine Bel.drewN ?_ _ | refine Bel.alloc ?_ _ | refine Bel.setCell ?_ (by first | omega | (simp; done) | (simp; omega) | (simp at *; omega)) _ | refine Bel.trans ?_ (by assumption))))⟩)
    (first
      | (go_at_call 39; refine (need_any a b _ (by omega) (by omega)).mono ?_; rintro e w5 ⟨rfl, hb5⟩; rw [← HQ.out])
      | (go_at_call 46; refine (find_any a b q _ (by omega) hset (by omega)).mono ?_; rintro e w6 ⟨x, y, ok, rfl, hr6, hb6⟩; obtain ⟨hxa, hyb, hq1, hgood⟩ := hr6.2.1 (hr6.1.trans HQ1.out); have HG := Lib.hid hgood; have HQP := Lib.hid hq1; clear hr6 hgood hq1)
      | (go_at_call 45; refine (pick_any g b0 L x y ok _ (Held.out _ (by (repeat (first | exact Bel.refl _ | assumption | refine Bel.drew ?_ | refine Bel.drewN ?_ _ | refine Bel.alloc ?_ _ | refine Bel.setCell ?_ (by first | omega | (simp; done) | (simp; omega) | (simp at *; omega)) _ | refine Bel.trans ?_ (by assumption))))).1 (by omega) (by omega) (by omega)).mono ?_; rintro e w7 ⟨A', n', c', rfl, hn', hb7, hI⟩; have HN' := Lib.hid hn'; clear hn'))
  go_wp2
  go_ret3
  refine ⟨A', n', c', x, y, rfl, HN'.out, by (repeat (first | exact Bel.refl _ | assumption | refine Bel.drew ?_ | refine Bel.drewN ?_ _ | refine Bel.alloc ?_ _ | refine Bel.setCell ?_ (by first | omega | (simp; done) | (simp; omega) | (simp at *; omega)) _ | refine Bel.trans ?_ (by assumption))), hI.bel (by (repeat (first | exact Bel.refl _ | assumption | refine Bel.drew ?_ | refine Bel.drewN ?_ _ | refine Bel.alloc ?_ _ | refine Bel.setCell ?_ (by first | omega | (simp; done) | (simp; omega) | (simp at *; omega)) _ | refine Bel.trans ?_ (by assumption)))), ?_⟩
  rw [← HBB.out, ← HA.out, ← HQ.out]
  exact ⟨hxa, hyb, HQP.out, HG.out⟩
end Go.Proofs.Ytjcompmmjcefhaa

