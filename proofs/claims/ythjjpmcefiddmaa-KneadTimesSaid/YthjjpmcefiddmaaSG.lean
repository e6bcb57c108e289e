/- Rounds of the program; errors; Sum. -/
import Derived.Test.YthjjpmcefiddmaaSF
namespace Go.Proofs.Ythjjpmcefiddmaa
open Go.RowKit

attribute [local go_sem] Oper.semAt_some

theorem sorted_is {l r : List Int} (hp : l.Perm r) (hs : r.Pairwise (· ≤ ·)) : (l.mergeSort fun x y => decide (x ≤ y)) = r := by
  have h1 := List.mergeSort_perm l (fun x y : Int => decide (x ≤ y))
  have h2 : (l.mergeSort fun x y => decide (x ≤ y)).Pairwise (· ≤ ·) := by
    have := List.pairwise_mergeSort (le := fun x y : Int => decide (x ≤ y)) (fun a b c h1 h2 => by simp at *; omega) (fun a b => by simp; omega) l
    exact this.imp fun h => by simpa using h
  exact List.Perm.eq_of_pairwise (le := fun x y : Int => x ≤ y) (fun a b _ _ x y => Int.le_antisymm x y) h2 hs (h1.trans hp)
/-- What is known of the rounds of one fold. -/
theorem rounds_facts {h k : Nat} (h1 : 1 ≤ h) (h16 : h ≤ 16) (hk : k ≤ 1) :
    ((rdsTo (unN h k) (timesN h k) (2 * h)).mergeSort fun x y => decide (x ≤ y)) = refR h k (2 * h) ∧ (refR h k (2 * h)).foldl (· + ·) 0 = ((2 * h : Nat) : Int) ∧ (∀ v ∈ refR h k (2 * h), 1 ≤ v ∧ v ≤ 32 ∧ (timesN h k : Int) % v = 0) := by
  have hf := facts h1 h16 hk
  simp only [factsB, Bool.and_eq_true, beq_iff_eq, decide_eq_true_eq] at hf
  obtain ⟨⟨⟨⟨f1, f2⟩, f3⟩, f4⟩, f5⟩ := hf
  exact ⟨sorted_is (List.isPerm_iff.1 f1) f4, f2, fun v hv => of_decide_eq_true (List.all_eq_true.1 f3 v hv)⟩
theorem rds_ne {h k : Nat} (h1 : 1 ≤ h) : rdsTo (unN h k) (timesN h k) (2 * h) ≠ [] := by
  intro e
  have h0 : seenB (unN h k) (timesN h k) 0 0 = false := seenB_zero 0
  unfold rdsTo at e
  rw [List.filterMap_eq_nil_iff] at e
  have := e 0 (List.mem_range.2 (by omega))
  rw [h0] at this
  simp at this
set_option maxRecDepth 100000 in
set_option maxHeartbeats 2000000 in
theorem rounds_ok (h k : Nat) (w : World) (h1 : 1 ≤ h) (h16 : h ≤ 16) (hk : k ≤ 1) :
    Calls Try.prog 27 #[.int .i64 ((2 * h : Nat) : Int), .int .i64 (k : Int)] w (OwnV (refR h k (2 * h)) w) := by
  obtain ⟨hs1, -, -⟩ := rounds_facts h1 h16 hk
  have HS1 := Lib.hid hs1
  have HNE := Lib.hid (rds_ne (k := k) h1)
  have HLN := Lib.hid (Nat.le_trans (rdsTo_len (unN h k) (timesN h k) (2 * h)) (show 2 * h ≤ 1000 by omega))
  have HP := Lib.hid (perm_un h1 h16 hk)
  have HT := Lib.hid (show timesN h k ≤ 10000 from Nat.le_trans (timesN_ok h1 h16 hk).2 (by omega))
  obtain ⟨L, hL⟩ : ∃ L : Int, L = ((2 * h : Nat) : Int) := ⟨_, rfl⟩
  have HL := Lib.hid hL
  obtain ⟨x, hx⟩ : ∃ x : Int, x = (k : Int) := ⟨_, rfl⟩
  have HX := Lib.hid hx
  have HE := Lib.hid (show eK L x = 0 from by rw [hL, hx]; exact eK_ok h1 h16 hk)
  obtain ⟨m, hm⟩ : ∃ m, m = k := ⟨_, rfl⟩
  have HM := Lib.hid hm
  rw [← hm] at HS1 HNE HLN HP HT ⊢
  rw [← hL, show ((m : Nat) : Int) = x by rw [hm]; exact hx.symm]
  clear hs1 hL hx hm
  rcases (by omega : k = 0 ∨ k = 1) with rfl | rfl
  all_goals
    go_enter Try.func27, Try.ntmps27
    go_wp2_with fail
    refine (validateKind_any L x _).mono ?_
    rintro e w1 ⟨rfl, hw⟩
    subst hw
    rw [HE.out]
    go_wp2_with fail
    rw [HL.out]
    refine (numbered_any (2 * h) _ (by omega)).mono ?_
    rintro e w1 ⟨g0, rfl, hg0, hb1, hr0⟩
    rw [← HL.out]
    have hS0 := Seg.of_row hr0
    go_wp2_with fail
    refine (foldI_any _ x _ HX.out hk _).mono ?_
    rintro e w2 ⟨rfl, hw⟩
    subst hw
    go_wp2_with fail
    first | refine (out_any g0 0 h (2 * h) _ _ hS0 h1 h16 (Nat.le_refl _)).mono ?_ | refine (in_any g0 0 h (2 * h) _ _ hS0 h1 h16 (Nat.le_refl _)).mono ?_
    rintro e w2 ⟨g1, rfl, hg1, hb2, hr1⟩
    have hS1 : Seg w2 g1 0 (2 * h) (fun q => ((unN h m q : Nat) : Int)) := (Seg.of_row hr1).congr fun q _ => by rw [HM.out]
    clear hr0 hr1 hS0
    go_wp2_with fail
    refine (rounds_any (2 * h) g1 0 (2 * h) _ _ _ hS1 HP.out (by omega) HT.out).mono ?_
    rintro e w3 ⟨v3, rfl, hb3, hO3⟩
    go_wp2_with fail
    refine (sort_own hO3 HNE.out HLN.out).mono ?_
    rintro e w4 ⟨rfl, hO4, hg4⟩
    rw [HS1.out] at hO4
    have hb4 : Bel w2 w4 := grown_own hb3 hO3 (Nat.le_succ _) hg4
    obtain ⟨A9, n9, c9, rfl, hn9, hI9⟩ := hO4.form
    have HN9 := Lib.hid hn9
    clear hO3 hO4 hn9 hg4
    go_wp2
    exact bodyPost_ret (v := .tuple #[.slice A9 n9 c9, .int .i64 0]) (by simp [results, Try.results27, go_sem]) rfl ⟨A9, n9, c9, rfl, HN9.out, (hb1.trans hb2).trans hb4, hI9⟩
set_option maxRecDepth 100000 in
set_option maxHeartbeats 1000000 in
theorem rounds_err (n k : Int) (w : World) (hE : eK n k ≠ 0) : Calls Try.prog 27 #[.int .i64 n, .int .i64 k] w fun e w' => e = .returned (.tuple #[.slice none 0 0, .int .i64 1]) ∧ w = w' := by
  have HE := Lib.hid (eK_one hE)
  clear hE
  go_enter Try.func27, Try.ntmps27
  go_wp2_with fail
  refine (validateKind_any n k _).mono ?_
  rintro e w1 ⟨rfl, rfl⟩
  rw [HE.out]
  go_wp2
  exact bodyPost_ret (v := .tuple #[.slice none 0 0, .int .i64 1]) (by simp [results, Try.results27, go_sem]) rfl ⟨rfl, rfl⟩
set_option maxRecDepth 100000 in
set_option maxHeartbeats 1000000 in
theorem rrounds_err (n k : Int) (w : World) (hE : eK n k ≠ 0) : Calls Try.prog 25 #[.int .i64 n, .int .i64 k] w fun e w' => e = .returned (.tuple #[.slice none 0 0, .int .i64 1]) ∧ w = w' := by
  have HE := Lib.hid (decide_eq_false hE)
  clear hE
  go_enter Try.func25, Try.ntmps25
  go_wp2_with fail
  refine (kinded_any n k _).mono ?_
  rintro e w1 ⟨rfl, rfl⟩
  rw [HE.out]
  go_wp2
  exact bodyPost_ret (v := .tuple #[.slice none 0 0, .int .i64 1]) (by simp [results, Try.results25, go_sem]) rfl ⟨rfl, rfl⟩
set_option maxRecDepth 100000 in
set_option maxHeartbeats 1000000 in
theorem rtimes_err (n k : Int) (w : World) (hE : eK n k ≠ 0) : Calls Try.prog 24 #[.int .i64 n, .int .i64 k] w fun e w' => e = .returned (.tuple #[.int .i64 0, .int .i64 1]) ∧ w = w' := by
  have HE := Lib.hid (decide_eq_false hE)
  clear hE
  go_enter Try.func24, Try.ntmps24
  go_wp2_with fail
  refine (kinded_any n k _).mono ?_
  rintro e w1 ⟨rfl, rfl⟩
  rw [HE.out]
  go_wp2
  exact bodyPost_ret (v := .tuple #[.int .i64 0, .int .i64 1]) (by simp [results, Try.results24, go_sem]) rfl ⟨rfl, rfl⟩
def sumI (l : List Int) : Int := l.foldl (· + ·) 0
theorem sumI_snoc (l : List Int) (x : Int) : sumI (l ++ [x]) = sumI l + x := by simp [sumI]
theorem sumI_take {l : List Int} (h : ∀ x ∈ l, 0 ≤ x ∧ x ≤ 100) : ∀ k, k ≤ l.length → 0 ≤ sumI (l.take k) ∧ sumI (l.take k) ≤ 100 * k
  | 0, _ => by simp [sumI]
  | k + 1, hk => by
    have hg : l[k]? = some l[k] := List.getElem?_eq_getElem (by omega)
    have ih := sumI_take h k (by omega)
    have hx := h _ (List.mem_of_getElem? hg)
    rw [take_at hg, sumI_snoc]
    omega
set_option maxHeartbeats 1000000 in
theorem sumL_any (A : Option Addr) (n c : Nat) (l : List Int) (w : World) (hR : Ints w A l) (hn : l.length = n) (h7 : n ≤ 2000) (h : ∀ x ∈ l, 0 ≤ x ∧ x ≤ 100) :
    Calls Try.prog 29 #[.slice A n c] w fun e w' => e = .returned (.int .i64 (sumI l)) ∧ w = w' := by
  have Hn := Lib.hid hn; have HA := Lib.hid h
  clear hn h
  go_enter Try.func29, Try.ntmps29
  go_wp2
  go_loop [3, 4] (fun v i => ∃ k : Nat, k ≤ n ∧ i = .int .i64 k ∧ v = .int .i64 (sumI (l.take k))) (fun _ i => n - (intOf i).toNat)
  case atStart => exact ⟨0, Nat.zero_le _, rfl, by simp [sumI]⟩
  case round =>
    obtain ⟨k, hk, rfl, rfl⟩ := hrel
    have hb := sumI_take HA.out k (by rw [Hn.out]; exact hk)
    by_cases hlt : k < n
    · obtain ⟨b, o, x, rfl, hbl, hg, hc⟩ := hR.at_ (k := k) (by rw [Hn.out]; exact hlt)
      have hkn : (k : Int) < (n : Int) := by omega
      have hx := HA.out x (List.mem_of_getElem? hg)
      have HS := Lib.hid (show sumI (l.take (k + 1)) = sumI (l.take k) + x by rw [take_at hg, sumI_snoc])
      obtain ⟨s, hs⟩ : ∃ s, s = sumI (l.take k) := ⟨_, rfl⟩
      rw [← hs] at hb ⊢
      have HSS := Lib.hid hs
      clear hs hg
      obtain ⟨hx0, hx1⟩ := hx
      have hs1 : s ≤ 200000 := by omega
      go_wp2
      go_round
      case rel => exact ⟨k + 1, by omega, by go_num, by rw [HS.out, ← HSS.out]⟩
      case measure => simp [intOf]; omega
    · obtain rfl : n = k := by omega
      have HT := Lib.hid (show sumI (l.take n) = sumI l by rw [List.take_of_length_le (by rw [Hn.out]; omega)])
      go_wp2
      go_ret
      exact ⟨by rw [← HT.out]; rfl, rfl⟩
end Go.Proofs.Ythjjpmcefiddmaa
