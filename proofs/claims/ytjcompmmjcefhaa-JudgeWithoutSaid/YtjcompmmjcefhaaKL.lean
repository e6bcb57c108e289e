/- Left, Grade and State: the document's and the program's. -/
import Derived.Test.YtjcompmmjcefhaaKK
import Derived.Test.YtjcompmmjcefhaaKD
namespace Go.Proofs.Ytjcompmmjcefhaa
open Go.RowKit

theorem countL_at {L : List An} {g k : Nat} {v : Int} (h : (countL L g)[k]? = some v) : k < g ∧ v = cntI L k := by
  unfold countL at h
  simp only [List.getElem?_map, Option.map_eq_some_iff] at h
  obtain ⟨i, hi, rfl⟩ := h
  obtain ⟨hl, e⟩ := List.getElem?_eq_some_iff.1 hi
  simp at hl e
  subst e
  exact ⟨hl, rfl⟩

/-- What Left refuses. -/
def errL (g : Int) (L : List An) (lies : Int) : Int := if errA g L = 0 then if 0 ≤ lies ∧ lies ≤ 12 then 0 else 1 else errA g L
theorem errL_bad {g : Int} {L : List An} {lies : Int} (h : errA g L ≠ 0) : errL g L lies = errA g L := if_neg h
theorem errL_lies {g : Int} {L : List An} {lies : Int} (h : errA g L = 0) (h2 : ¬ (0 ≤ lies ∧ lies ≤ 12)) : errL g L lies = 1 := by unfold errL; rw [if_pos h, if_neg h2]
theorem errL_ok {g : Int} {L : List An} {lies : Int} (h : errA g L = 0) (h2 : 0 ≤ lies ∧ lies ≤ 12) : errL g L lies = 0 := by unfold errL; rw [if_pos h, if_pos h2]
theorem errL_zero {g : Int} {L : List An} {lies : Int} (h : errL g L lies = 0) : errA g L = 0 ∧ 0 ≤ lies ∧ lies ≤ 12 := by
  unfold errL at h
  split at h
  · split at h
    · exact ⟨by assumption, by assumption⟩
    · omega
  · exact absurd h (by assumption)
theorem wLeft_err (g : Int) (A : Option Addr) (n c : Nat) (L : List An) (lies : Int) (w : World) (hR : Ans w A L) (hn : L.length = n) (hmax : n ≤ maxLen) (he : errL g L lies ≠ 0) :
    Calls Try.prog 28 #[.int .i64 g, .slice A n c, .int .i64 lies] w fun e w' => e = .returned (.tuple #[.slice none 0 0, .int .i64 (errL g L lies)]) ∧ Bel w w' := by
  by_cases h : errA g L = 0
  · have h2 : ¬ (0 ≤ lies ∧ lies ≤ 12) := fun k => he (errL_ok h k)
    rw [errL_lies h h2]
    have HE := Lib.hid h
    clear h he
    rcases (by omega : lies < 0 ∨ 12 < lies) with h1 | h1
    · go_enter Try.func28, Try.ntmps28
      go_wp2_with fail
      refine (validate_any g A n c L _ hR hn hmax).mono ?_
      rintro e w1 ⟨rfl, hb1⟩
      rw [HE.out]
      go_wp2
      go_ret2
      exact ⟨rfl, hb1⟩
    · have h3 : 0 ≤ lies := by omega
      go_enter Try.func28, Try.ntmps28
      go_wp2_with fail
      refine (validate_any g A n c L _ hR hn hmax).mono ?_
      rintro e w1 ⟨rfl, hb1⟩
      rw [HE.out]
      go_wp2
      go_ret2
      exact ⟨rfl, hb1⟩
  · rw [errL_bad h]
    have hne : (errA g L != 0) = true := by simpa using h
    clear he
    go_enter Try.func28, Try.ntmps28
    go_wp2_with fail
    refine (validate_any g A n c L _ hR hn hmax).mono ?_
    rintro e w1 ⟨rfl, hb1⟩
    go_wp2
    go_ret2
    exact ⟨rfl, hb1⟩
theorem wLeft_ok (g : Nat) (A : Option Addr) (n c : Nat) (L : List An) (lies : Int) (w : World) (hR : Ans w A L) (hn : L.length = n) (hmax : n ≤ maxLen) (he : errL (g : Int) L lies = 0) :
    Calls Try.prog 28 #[.int .i64 (g : Int), .slice A n c, .int .i64 lies] w (NewsOk w (leftL L g lies)) := by
  obtain ⟨he, l1, l2⟩ := errL_zero he
  obtain ⟨⟨g1, g2⟩, h12, _⟩ := errA_zero he
  rw [hn] at h12
  have HE := Lib.hid he
  have Hn := Lib.hid hn; have HX := Lib.hid hmax
  clear he hn hmax
  go_enter Try.func28, Try.ntmps28
  go_wp2_with fail
  refine (validate_any g A n c L _ hR Hn.out HX.out).mono ?_
  rintro e w1 ⟨rfl, hb1⟩
  rw [HE.out]
  go_wp2_with fail
  refine (left_any g A n c L lies _ (hR.bel hb1) Hn.out h12 (by omega)).mono ?_
  rintro e w2 ⟨A', n', c', rfl, hn', hb2, hI⟩
  have HN := Lib.hid hn'
  clear hn'
  go_wp2
  go_ret2
  exact ⟨A', n', c', rfl, HN.out, hb1.trans hb2, hI⟩
end Go.Proofs.Ytjcompmmjcefhaa

