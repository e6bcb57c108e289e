/- The errors of Add. -/
import Derived.Test.YtahkihifgafbnaaYU
namespace Go.Proofs.Ytahkihifgafbnaa
open Go.RowKit

set_option maxRecDepth 100000 in
set_option maxHeartbeats 4000000 in
theorem add_err (lo : Nat) (A : Option Addr) (n c : Nat) (T : List (List Int)) (B : Option Addr) (q d : Nat) (l : List Int) (w : World) (hR : Tab lo w A T) (hn : T.length = n) (hJ : Ints w B l) (hq : l.length = q) (hmax : q ≤ maxLen) (hV : errB T l ≠ 0) :
    Calls Try.prog 75 #[.slice A n c, .slice B q d] w fun e w' => e = .returned (.tuple #[.slice none 0 0, .int .i64 (errB T l)]) ∧ Bel w w' := by
  have Hn := Lib.hid hn; have Hq := Lib.hid hq
  by_cases hz : errT T = 0
  · obtain ⟨⟨h1, h7⟩, -, -⟩ := errT_zero hz
    rw [hn] at h1 h7
    have HZ := Lib.hid hz
    cases hB : rowB n l
    · have HX : errB T l = 1 := by unfold errB; rw [if_pos hz, hn, hB]; rfl
      rw [HX]
      have HB := Lib.hid hB
      clear hV hn hq hz HX hB
      go_enter Try.func75, Try.ntmps75
      go_wp2_with fail
      refine (validate_any lo A n c T _ hR Hn.out).mono ?_
      rintro e w1 ⟨rfl, hb1⟩
      rw [HZ.out]
      go_wp2_with fail
      refine (areAnswers_any B q d l n _ (hJ.bel hb1) Hq.out hmax).mono ?_
      rintro e w2 ⟨rfl, hw2⟩
      subst hw2
      rw [HB.out]
      go_wp2
      exact bodyPost_ret (v := .tuple #[.slice none 0 0, .int .i64 1]) (by simp [results, Try.results75, go_sem]) rfl ⟨rfl, hb1⟩
    · obtain rfl : n = 7 := by
        refine Classical.byContradiction fun h => hV ?_
        unfold errB
        rw [if_pos hz, hn, if_pos hB, if_neg h]
      have HX : errB T l = 3 := by unfold errB; rw [if_pos hz, hn, if_pos hB]; rfl
      rw [HX]
      have HB := Lib.hid hB
      clear hV hn hq hz HX hB
      have HIC : Hid (∀ w : World, Calls Try.prog 81 #[.int .i64 8] w fun e w' => e = .returned (.bool false) ∧ w = w') := fun w => isCount_any 8 w
      go_enter Try.func75, Try.ntmps75
      go_wp2_with fail
      refine (validate_any lo A 7 c T _ hR Hn.out).mono ?_
      rintro e w1 ⟨rfl, hb1⟩
      rw [HZ.out]
      go_wp2_with fail
      refine (areAnswers_any B q d l 7 _ (hJ.bel hb1) Hq.out hmax).mono ?_
      rintro e w2 ⟨rfl, hw2⟩
      subst hw2
      rw [HB.out]
      go_wp2_with fail
      refine (HIC.out _).mono ?_
      rintro e w2 ⟨rfl, hw2⟩
      subst hw2
      go_wp2
      exact bodyPost_ret (v := .tuple #[.slice none 0 0, .int .i64 3]) (by simp [results, Try.results75, go_sem]) rfl ⟨rfl, hb1⟩
  · have HX : errB T l = errT T := by unfold errB; rw [if_neg hz]
    rw [HX]
    have hE' : (errT T != 0) = true := by simpa using hz
    clear hn hq hV hz HX
    generalize hv : errT T = v at *
    have HV := Lib.hid hv
    clear hv
    go_enter Try.func75, Try.ntmps75
    go_wp2_with fail
    refine (validate_any lo A n c T _ hR Hn.out).mono ?_
    rintro e w1 ⟨rfl, hb1⟩
    rw [HV.out]
    go_wp2
    exact bodyPost_ret (v := .tuple #[.slice none 0 0, .int .i64 v]) (by simp [results, Try.results75, go_sem]) rfl ⟨rfl, hb1⟩
theorem rowB_iff {n : Nat} {l : List Int} : rowB n l = true ↔ (∀ x ∈ l, x = 0 ∨ x = 1) ∧ l.length = n := by
  unfold rowB
  rw [Bool.and_eq_true, List.all_eq_true]
  simp
set_option maxRecDepth 100000 in
set_option maxHeartbeats 4000000 in
theorem radd_err (lo : Nat) (A : Option Addr) (n c : Nat) (T : List (List Int)) (B : Option Addr) (q d : Nat) (l : List Int) (w : World) (hR : Tab lo w A T) (hn : T.length = n) (hJ : Ints w B l) (hq : l.length = q) (hmax : q ≤ maxLen) (hV : errB T l ≠ 0) :
    Calls Try.prog 73 #[.slice A n c, .slice B q d] w fun e w' => e = .returned (.tuple #[.slice none 0 0, .int .i64 (errB T l)]) ∧ Bel w w' := by
  have Hn := Lib.hid hn; have Hq := Lib.hid hq
  by_cases hz : errT T = 0
  · obtain ⟨⟨h1, h7⟩, -, -⟩ := errT_zero hz
    rw [hn] at h1 h7
    have HZ := Lib.hid hz
    have H1 : Hid (rowB n l ≠ true → errB T l = 1) := fun h => by unfold errB; rw [if_pos hz, hn, if_neg h]
    have H3 : Hid (rowB n l = true → n = 7 ∧ errB T l = 3) := fun h => by
      have h7 : n = 7 := Classical.byContradiction fun h2 => hV (by unfold errB; rw [if_pos hz, hn, if_pos h, if_neg h2])
      exact ⟨h7, by unfold errB; rw [if_pos hz, hn, if_pos h, if_pos h7]⟩
    clear hV hn hq hz
    by_cases hqn : q = n
    · subst hqn
      go_enter Try.func73, Try.ntmps73
      go_wp2_with fail
      refine (rvalidate_any lo A q c T _ hR Hn.out).mono ?_
      rintro e w1 ⟨rfl, hb1⟩
      rw [HZ.out]
      go_wp2
      go_loopw [7] (fun i wr => ∃ k : Nat, k ≤ q ∧ i = .int .i64 k ∧ Bel w wr ∧ ∀ x ∈ l.take k, x = 0 ∨ x = 1) (fun i _ => q - (intOf i).toNat)
      case atStart => exact ⟨0, Nat.zero_le _, rfl, hb1, fun x hx => by simp at hx⟩
      case round =>
        obtain ⟨k, hk, rfl, hbk, hin⟩ := hrel
        have HI := Lib.hid hin
        clear hin
        by_cases hlt : k < q
        · obtain ⟨b, o, x, rfl, hbl, hg, hc1⟩ := (hJ.bel hbk).at_ (k := k) (by rw [Hq.out]; exact hlt)
          have HG := Lib.hid hg
          have ki1 : (k : Int) < (q : Int) := by omega
          have ki2 : (0 : Int) ≤ (k : Int) := by omega
          clear hg
          cases hd : decide (0 ≤ x ∧ x ≤ 1)
          · have HE1 := Lib.hid (show errB T l = 1 from H1.out fun h => by
              have := (rowB_iff.1 h).1 x (List.mem_of_getElem? HG.out)
              have h2 := of_decide_eq_false hd
              omega)
            go_wp2_with (first | (go_at_call 83; refine (within_any _ _ _ _).mono ?_; rintro e w3 ⟨rfl, rfl⟩; rw [hd]))
            rw [HE1.out]
            exact bodyPost_ret (v := .tuple #[.slice none 0 0, .int .i64 1]) (by simp [results, Try.results73, go_sem]) rfl ⟨rfl, hbk⟩
          · have HX := Lib.hid (of_decide_eq_true hd)
            go_wp2_with (first | (go_at_call 83; refine (within_any _ _ _ _).mono ?_; rintro e w3 ⟨rfl, rfl⟩; rw [hd]))
            go_roundw
            case rel => exact ⟨k + 1, by omega, by go_num, hbk, fun y hy => by
              rw [take_at HG.out] at hy
              rcases List.mem_append.1 hy with h | h
              · exact HI.out y h
              · simp at h
                subst h
                have := HX.out
                omega⟩
            case measure => simp [intOf]; omega
        · obtain rfl : q = k := by omega
          obtain ⟨rfl, h3⟩ := H3.out (rowB_iff.2 ⟨fun x hx => HI.out x (by rw [List.take_of_length_le (by rw [Hq.out]; omega)]; exact hx), Hq.out⟩)
          have H33 := Lib.hid h3
          clear h3
          go_wp2
          rw [H33.out]
          exact bodyPost_ret (v := .tuple #[.slice none 0 0, .int .i64 3]) (by simp [results, Try.results73, go_sem]) rfl ⟨rfl, hbk⟩
    · rw [H1.out fun h => hqn (by rw [← Hq.out]; exact (rowB_iff.1 h).2)]
      have hne : ((q : Int) != (n : Int)) = true := by simp; omega
      go_enter Try.func73, Try.ntmps73
      go_wp2_with fail
      refine (rvalidate_any lo A n c T _ hR Hn.out).mono ?_
      rintro e w1 ⟨rfl, hb1⟩
      rw [HZ.out]
      go_wp2
      exact bodyPost_ret (v := .tuple #[.slice none 0 0, .int .i64 1]) (by simp [results, Try.results73, go_sem]) rfl ⟨rfl, hb1⟩
  · have HX : errB T l = errT T := by unfold errB; rw [if_neg hz]
    rw [HX]
    have hE' : (errT T != 0) = true := by simpa using hz
    clear hn hq hV hz HX
    generalize hv : errT T = v at *
    have HV := Lib.hid hv
    clear hv
    go_enter Try.func73, Try.ntmps73
    go_wp2_with fail
    refine (rvalidate_any lo A n c T _ hR Hn.out).mono ?_
    rintro e w1 ⟨rfl, hb1⟩
    rw [HV.out]
    go_wp2
    exact bodyPost_ret (v := .tuple #[.slice none 0 0, .int .i64 v]) (by simp [results, Try.results73, go_sem]) rfl ⟨rfl, hb1⟩
end Go.Proofs.Ytahkihifgafbnaa
