/- Moves: the moves of a finer lot. -/
import Derived.Test.YtmbhhooiaonhjaaML
import Derived.Test.YtmbhhooiaonhjaaMH
import Derived.Test.YtmbhhooiaonhjaaMI
namespace Go.Proofs.Ytmbhhooiaonhjaa
open Go.RowKit

/-- What Moves answers where a lot is finer. -/
def MovesYes (w : World) (gs hs : List (Int × Int)) (e : Ending) (w' : World) : Prop :=
  ∃ A n c P, e = .returned (.tuple #[.slice A n c, .bool true, .int .i64 0]) ∧ n = P.length ∧ n ≤ 12 ∧ Bel w w' ∧ Trs w' A P ∧ checkE gs hs P = 0

set_option maxHeartbeats 400000 in
theorem wMoves_no (A B : Option Addr) (n c m d : Nat) (gs hs : List (Int × Int)) (w : World) (hR : Prs w A gs) (hS : Prs w B hs) (hn : gs.length = n) (hm : hs.length = m) (hmax : n ≤ maxLen) (hmax2 : m ≤ maxLen) (hf : (finV gs hs).1 = false) :
    Calls Try.prog 30 #[.slice A n c, .slice B m d] w fun e w' => e = .returned (.tuple #[.slice none 0 0, .bool false, .int .i64 (finV gs hs).2]) ∧ Bel w w' := by
  have HF := Lib.hid hf
  clear hf
  go_enter Try.func30, Try.ntmps30
  go_wp2_with fail
  refine (wFiner_any A B n c m d gs hs _ hR hS hn hm hmax hmax2).mono ?_
  rintro e w1 ⟨rfl, hb1⟩
  unfold boolE
  rw [HF.out]
  go_wp2
  go_ret3
  exact ⟨rfl, hb1⟩

set_option maxHeartbeats 400000 in
theorem wMoves_yes (A B : Option Addr) (n c m d : Nat) (gs hs : List (Int × Int)) (w : World) (hR : Prs w A gs) (hS : Prs w B hs) (hn : gs.length = n) (hm : hs.length = m) (hmax : n ≤ maxLen) (hmax2 : m ≤ maxLen) (hf : (finV gs hs).1 = true) :
    Calls Try.prog 30 #[.slice A n c, .slice B m d] w (MovesYes w gs hs) := by
  have HF := Lib.hid hf
  obtain ⟨a, b, hv⟩ := finV_true hf
  have HV := Lib.hid hv; have HA := Lib.hid a; have HB := Lib.hid b
  clear a b hv hf
  go_enter Try.func30, Try.ntmps30
  go_wp2_with fail
  refine (wFiner_any A B n c m d gs hs _ hR hS hn hm hmax hmax2).mono ?_
  rintro e w1 ⟨rfl, hb1⟩
  unfold boolE
  rw [HV.out]
  go_wp2_with fail
  refine (movesTo_any A B n c m d gs hs _ (hR.bel (by (repeat (first | exact Bel.refl _ | assumption | refine Bel.drew ?_ | refine Bel.drewN ?_ _ | refine Bel.alloc ?_ _ | refine Bel.setCell ?_ (by first | omega | (simp; done) | (simp; omega) | (simp at *; omega)) _ | refine Bel.trans ?_ (by assumption))))) (hS.bel (by (repeat (first | exact Bel.refl _ | assumption | refine Bel.drew ?_ | refine Bel.drewN ?_ _ | refine Bel.alloc ?_ _ | refine Bel.setCell ?_ (by first | omega | (simp; done) | (simp; omega) | (simp at *; omega)) _ | refine Bel.trans ?_ (by assumption))))) hn hm HA.out HB.out).mono ?_
  rintro e w2 ⟨A', n', c', P, rfl, hn', h12, hb2, htr, hC⟩
  have HN := Lib.hid hn'; have HC := Lib.hid hC
  clear hn' hC
  go_wp2
  go_ret3
  exact ⟨A', n', c', P, rfl, HN.out, h12, by (repeat (first | exact Bel.refl _ | assumption | refine Bel.drew ?_ | refine Bel.drewN ?_ _ | refine Bel.alloc ?_ _ | refine Bel.setCell ?_ (by first | omega | (simp; done) | (simp; omega) | (simp at *; omega)) _ | refine Bel.trans ?_ (by assumption))), htr, HC.out⟩
end Go.Proofs.Ytmbhhooiaonhjaa

