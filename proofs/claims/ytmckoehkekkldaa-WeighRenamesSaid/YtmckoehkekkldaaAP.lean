/- FromMarks of the program: what it refuses by the lengths and the numbers. -/
import Derived.Test.YtmckoehkekkldaaAO
namespace Go.Proofs.Ytmckoehkekkldaa
open Go.RowKit

/-- Is the list too long? -/
def longB (l : List Int) : Bool := decide (3 < l.length)
/-- Is the list no mark of q numbers? -/
def noneB (q : Nat) (l : List Int) : Bool := l.length != q || !sidesB l
theorem isLargeB_any (A : Option Addr) (n c : Nat) (l : List Int) (w : World) (hn : l.length = n) : Calls Try.prog 92 #[.slice A n c] w fun e w' => e = .returned (.bool (longB l)) ∧ w = w' := by
  have Hn := Lib.hid (show longB l = !decide (0 ≤ (n : Int) ∧ (n : Int) ≤ 3) by
    unfold longB
    rw [hn]
    by_cases h : n ≤ 3
    · rw [decide_eq_false (by omega), decide_eq_true (by omega)]; rfl
    · rw [decide_eq_true (by omega), decide_eq_false (by omega)]; rfl)
  obtain ⟨d, hd⟩ : ∃ d, d = decide (0 ≤ (n : Int) ∧ (n : Int) ≤ 3) := ⟨_, rfl⟩
  have HD := Lib.hid hd
  clear hn hd
  go_enter Try.func92, Try.ntmps92
  go_wp2_with fail
  refine (areWeighings_any _ _).mono ?_
  rintro e w1 ⟨rfl, rfl⟩
  rw [← HD.out]
  go_wp2
  go_ret
  exact ⟨by rw [Hn.out, ← HD.out]; rfl, rfl⟩
set_option maxRecDepth 100000 in
theorem isNoneB_any (b q : Nat) (A : Option Addr) (n c : Nat) (l : List Int) (w : World) (hc : w.cell? ⟨b, 0, none⟩ = some (.int .i64 (q : Int))) (hI : Ints w A l) (hn : l.length = n) (hmax : n ≤ maxLen) (hq : q ≤ 3) :
    Calls Try.prog 94 #[.slice A n c, .pointer (some ⟨b, 0, none⟩)] w fun e w' => e = .returned (.bool (noneB q l)) ∧ w = w' := by
  have Hn := Lib.hid hn
  by_cases h : n = q
  · obtain rfl := h
    have HS := Lib.hid (show noneB n l = !sidesB l by unfold noneB; rw [hn]; simp)
    obtain ⟨d, hd⟩ : ∃ d, d = sidesB l := ⟨_, rfl⟩
    have HD := Lib.hid hd
    clear hn hd
    go_enter Try.func94, Try.ntmps94
    go_wp2_with fail
    refine (areSides_any A n c l _ hI Hn.out hmax).mono ?_
    rintro e w1 ⟨rfl, rfl⟩
    rw [← HD.out]
    go_wp2
    go_ret
    exact ⟨by rw [HS.out, ← HD.out]; rfl, rfl⟩
  · have HS := Lib.hid (show noneB q l = true by unfold noneB; rw [hn]; simp [h])
    have h1 : ((n : Int) != (q : Int)) = true := by simp; omega
    clear hn h
    go_enter Try.func94, Try.ntmps94
    go_wp2
    go_ret
    exact ⟨by rw [HS.out]; rfl, rfl⟩

set_option maxRecDepth 100000 in
set_option maxHeartbeats 1000000 in
theorem large_any (lo : Nat) (A : Option Addr) (n c : Nat) (T : List (List Int)) (w : World) (hT : Tab lo w A T) (hn : T.length = n) (hmax : n ≤ maxLen) :
    Calls Try.prog 93 #[.slice A n c, .func (Fn.func 92) #[] #[]] w fun e w' => e = .returned (.bool (T.any longB)) ∧ w = w' := by
  have Hn := Lib.hid hn
  have hni : (n : Int) ≤ 9223372036854775807 := by unfold maxLen at hmax; omega
  clear hn hmax
  have key : Calls Try.prog 114 #[.slice A n c, .func (Fn.func 92) #[] #[]] w fun e w' => (∃ i : Int, e = .returned (.int .i64 i) ∧ decide (i ≥ 0) = T.any longB) ∧ w = w' := by
    go_enter Try.func114, Try.ntmps114
    go_wp2
    go_loop [8] (fun i => ∃ k : Nat, k ≤ n ∧ i = .int .i64 k ∧ ∀ (j : Nat) (u : List Int), j < k → T[j]? = some u → longB u = false) (fun i => n - (intOf i).toNat)
    case atStart => exact ⟨0, Nat.zero_le _, rfl, fun j u hj => by omega⟩
    case round =>
      obtain ⟨k, hk, rfl, hz⟩ := hrel
      have HZ := Lib.hid hz
      clear hz
      by_cases hlt : k < n
      · have hki : (k : Int) < (n : Int) := by omega
        obtain ⟨b', o, ns, A1, n1, c1, rfl, hbl, hg, q1, hI, hl1, hx1⟩ := hT.at_ (k := k) (by rw [Hn.out]; exact hlt)
        have HL := Lib.hid hl1; have HG := Lib.hid hg
        clear hg hl1
        go_wp2_with fail
        refine (isLargeB_any A1 n1 c1 ns _ HL.out).mono ?_
        rintro e w1 ⟨rfl, rfl⟩
        cases hq : longB ns
        · have HQ := Lib.hid hq
          clear hq
          go_wp2
          go_round
          case rel => exact ⟨k + 1, by omega, by go_num, fun j u hj hu => by
            rcases (by omega : j < k ∨ j = k) with h | rfl
            · exact HZ.out j u h hu
            · rw [HG.out] at hu; injection hu with hu; subst hu; exact HQ.out⟩
          case measure => simp [intOf]; omega
        · have HF := Lib.hid (show T.any longB = true from List.any_eq_true.2 ⟨ns, List.mem_of_getElem? HG.out, hq⟩)
          clear hq
          go_wp2
          go_ret
          exact ⟨⟨k, rfl, by rw [HF.out]; simp⟩, rfl⟩
      · obtain rfl : k = n := by omega
        have HF := Lib.hid (show T.any longB = false from List.any_eq_false.2 fun u hu => by
          obtain ⟨j, hj⟩ := List.mem_iff_getElem?.1 hu
          rw [HZ.out j u (by rw [← Hn.out]; exact (List.getElem?_eq_some_iff.1 hj).1) hj]
          simp)
        go_wp2
        go_ret
        exact ⟨⟨-1, rfl, by rw [HF.out]; decide⟩, rfl⟩
  go_enter Try.func93, Try.ntmps93
  go_wp2_with fail
  refine key.mono ?_
  rintro e w1 ⟨⟨i, rfl, hi⟩, rfl⟩
  have HI := Lib.hid hi
  clear hi
  go_wp2
  go_ret
  exact ⟨ret_bool HI.out, rfl⟩

set_option maxRecDepth 100000 in
set_option maxHeartbeats 1000000 in
theorem none_any (lo b q : Nat) (A : Option Addr) (n c : Nat) (T : List (List Int)) (w : World) (hT : Tab lo w A T) (hn : T.length = n) (hmax : n ≤ maxLen) (hcell : w.cell? ⟨b, 0, none⟩ = some (.int .i64 (q : Int))) (h3 : q ≤ 3) :
    Calls Try.prog 93 #[.slice A n c, .func (Fn.func 94) #[] #[.pointer (some ⟨b, 0, none⟩)]] w fun e w' => e = .returned (.bool (T.any (noneB q))) ∧ w = w' := by
  have Hn := Lib.hid hn
  have hni : (n : Int) ≤ 9223372036854775807 := by unfold maxLen at hmax; omega
  clear hn hmax
  have key : Calls Try.prog 114 #[.slice A n c, .func (Fn.func 94) #[] #[.pointer (some ⟨b, 0, none⟩)]] w fun e w' => (∃ i : Int, e = .returned (.int .i64 i) ∧ decide (i ≥ 0) = T.any (noneB q)) ∧ w = w' := by
    go_enter Try.func114, Try.ntmps114
    go_wp2
    go_loop [8] (fun i => ∃ k : Nat, k ≤ n ∧ i = .int .i64 k ∧ ∀ (j : Nat) (u : List Int), j < k → T[j]? = some u → (noneB q) u = false) (fun i => n - (intOf i).toNat)
    case atStart => exact ⟨0, Nat.zero_le _, rfl, fun j u hj => by omega⟩
    case round =>
      obtain ⟨k, hk, rfl, hz⟩ := hrel
      have HZ := Lib.hid hz
      clear hz
      by_cases hlt : k < n
      · have hki : (k : Int) < (n : Int) := by omega
        obtain ⟨b', o, ns, A1, n1, c1, rfl, hbl, hg, q1, hI, hl1, hx1⟩ := hT.at_ (k := k) (by rw [Hn.out]; exact hlt)
        have HL := Lib.hid hl1; have HG := Lib.hid hg
        clear hg hl1
        go_wp2_with fail
        refine (isNoneB_any b q A1 n1 c1 ns _ hcell hI HL.out hx1 h3).mono ?_
        rintro e w1 ⟨rfl, rfl⟩
        cases hq : (noneB q) ns
        · have HQ := Lib.hid hq
          clear hq
          go_wp2
          go_round
          case rel => exact ⟨k + 1, by omega, by go_num, fun j u hj hu => by
            rcases (by omega : j < k ∨ j = k) with h | rfl
            · exact HZ.out j u h hu
            · rw [HG.out] at hu; injection hu with hu; subst hu; exact HQ.out⟩
          case measure => simp [intOf]; omega
        · have HF := Lib.hid (show T.any (noneB q) = true from List.any_eq_true.2 ⟨ns, List.mem_of_getElem? HG.out, hq⟩)
          clear hq
          go_wp2
          go_ret
          exact ⟨⟨k, rfl, by rw [HF.out]; simp⟩, rfl⟩
      · obtain rfl : k = n := by omega
        have HF := Lib.hid (show T.any (noneB q) = false from List.any_eq_false.2 fun u hu => by
          obtain ⟨j, hj⟩ := List.mem_iff_getElem?.1 hu
          rw [HZ.out j u (by rw [← Hn.out]; exact (List.getElem?_eq_some_iff.1 hj).1) hj]
          simp)
        go_wp2
        go_ret
        exact ⟨⟨-1, rfl, by rw [HF.out]; decide⟩, rfl⟩
  go_enter Try.func93, Try.ntmps93
  go_wp2_with fail
  refine key.mono ?_
  rintro e w1 ⟨⟨i, rfl, hi⟩, rfl⟩
  have HI := Lib.hid hi
  clear hi
  go_wp2
  go_ret
  exact ⟨ret_bool HI.out, rfl⟩
end Go.Proofs.Ytmckoehkekkldaa
