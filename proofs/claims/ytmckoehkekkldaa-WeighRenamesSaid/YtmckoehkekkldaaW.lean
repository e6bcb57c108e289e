/- The document's Validate. -/
import Derived.Test.YtmckoehkekkldaaV
namespace Go.Proofs.Ytmckoehkekkldaa
open Go.RowKit

theorem errW_set {n : Int} {l r : List Int} (h : setB n l = false ∨ setB n r = false) : errW n (l, r) = 1 := by
  unfold errW
  rcases h with h | h
  · simp only [h, Bool.false_and, Bool.false_eq_true, if_false]
  · simp only [h, Bool.and_false, Bool.false_eq_true, if_false]
theorem errW_twice {n : Int} {l r : List Int} (h1 : setB n l = true) (h2 : setB n r = true) (h : l.any (hasB r) = true) : errW n (l, r) = 6 := by
  unfold errW
  simp only [h1, h2, Bool.and_self, if_true, h]
theorem errW_len {n : Int} {l r : List Int} (h1 : setB n l = true) (h2 : setB n r = true) (h : l.any (hasB r) = false) : errW n (l, r) = if l.length = r.length then 0 else 5 := by
  unfold errW
  simp only [h1, h2, Bool.and_self, if_true, h, Bool.false_eq_true, if_false]

set_option maxRecDepth 100000 in
set_option maxHeartbeats 4000000 in
theorem rValidate_any (lo : Nat) (n : Int) (A : Option Addr) (m c : Nat) (P : List Wg) (w : World) (hR : Plan lo w A P) (hm : P.length = m) :
    Calls Try.prog 44 #[.int .i64 n, .slice A m c] w fun e w' => e = .returned (.int .i64 (errV n P)) ∧ Bel w w' := by
  have Hm := Lib.hid hm
  clear hm
  have HE : Hid (errV n P = if 1 ≤ n ∧ n ≤ 13 then (if P.length ≤ 3 then errPs n P else 3) else 1) := rfl
  by_cases h1 : 1 ≤ n ∧ n ≤ 13
  · have HW := Lib.hid h1
    rw [if_pos h1, Hm.out] at HE
    obtain ⟨n1, n13⟩ := h1
    by_cases h3 : m ≤ 3
    · have hm3 : (m : Int) ≤ 3 := by omega
      rw [if_pos h3] at HE
      go_enter Try.func44, Try.ntmps44
      go_wp2_with (first | (go_at_call 83; refine (within_yes _ _ _ _ HW.out).mono ?_; rintro e w1 ⟨rfl, rfl⟩))
      go_loopw [5, 6] (fun i _ wr => ∃ k : Nat, k ≤ m ∧ i = .int .i64 k ∧ errPs n (P.take k) = 0 ∧ Bel w wr) (fun i _ _ => m - (intOf i).toNat)
      case atStart => exact ⟨0, Nat.zero_le _, rfl, rfl, Bel.refl _⟩
      case round =>
        obtain ⟨k, hk, rfl, hall, hb⟩ := hrel
        have HA := Lib.hid hall
        clear hall
        by_cases hlt : k < m
        · obtain ⟨b, o, l, r, A1, c1n, c1, A2, c2n, c2, rfl, hbl, hg, q1', q2', hI, hl1, hx1, hJ, hl2, hx2⟩ := hR.at_ (k := k) (by rw [Hm.out]; exact hlt)
          have HG := Lib.hid hg; have HL1 := Lib.hid hl1; have HL2 := Lib.hid hl2
          have hki : (k : Int) < (m : Int) := by omega
          have hk0 : (0 : Int) ≤ (k : Int) := by omega
          have Held : Hid (∀ w', Bel w w' → w'.cell? ⟨b, o + k * 2, none⟩ = some (.slice A1 c1n c1) ∧ w'.cell? ⟨b, o + k * 2 + 1, none⟩ = some (.slice A2 c2n c2)) := fun w' h => ⟨by rw [h.use.1 _ _ hbl]; exact q1', by rw [h.use.1 _ _ hbl]; exact q2'⟩
          obtain ⟨q1, q2⟩ := Held.out wr hb
          clear hg hl1 hl2 q1' q2'
          cases s1 : setB n l
          · have HS := Lib.hid (errPs_stop HA.out HG.out (by rw [errW_set (.inl s1)]; decide))
            rw [errW_set (.inl s1)] at HS
            rw [HS.out] at HE
            go_wp2_with fail
            refine (rIsSet_any A1 c1n c1 l n _ (hI.bel (by (repeat (first | exact Bel.refl _ | assumption | refine Bel.drew ?_ | refine Bel.drewN ?_ _ | refine Bel.alloc ?_ _ | refine Bel.setCell ?_ (by first | omega | (simp; done) | (simp; omega) | (simp at *; omega)) _ | refine Bel.trans ?_ (by assumption))))) HL1.out hx1 n1 n13).mono ?_
            rintro e w1 ⟨rfl, hb1⟩
            rw [s1]
            go_wp2
            go_ret
            exact ⟨ret_int HE.out.symm, by (repeat (first | exact Bel.refl _ | assumption | refine Bel.drew ?_ | refine Bel.drewN ?_ _ | refine Bel.alloc ?_ _ | refine Bel.setCell ?_ (by first | omega | (simp; done) | (simp; omega) | (simp at *; omega)) _ | refine Bel.trans ?_ (by assumption)))⟩
          · cases s2 : setB n r
            · have HS := Lib.hid (errPs_stop HA.out HG.out (by rw [errW_set (.inr s2)]; decide))
              rw [errW_set (.inr s2)] at HS
              rw [HS.out] at HE
              go_wp2_with fail
              refine (rIsSet_any A1 c1n c1 l n _ (hI.bel (by (repeat (first | exact Bel.refl _ | assumption | refine Bel.drew ?_ | refine Bel.drewN ?_ _ | refine Bel.alloc ?_ _ | refine Bel.setCell ?_ (by first | omega | (simp; done) | (simp; omega) | (simp at *; omega)) _ | refine Bel.trans ?_ (by assumption))))) HL1.out hx1 n1 n13).mono ?_
              rintro e w1 ⟨rfl, hb1⟩
              rw [s1]
              obtain ⟨q3, q4⟩ := Held.out w1 (by (repeat (first | exact Bel.refl _ | assumption | refine Bel.drew ?_ | refine Bel.drewN ?_ _ | refine Bel.alloc ?_ _ | refine Bel.setCell ?_ (by first | omega | (simp; done) | (simp; omega) | (simp at *; omega)) _ | refine Bel.trans ?_ (by assumption))))
              clear q1 q2
              go_wp2_with fail
              refine (rIsSet_any A2 c2n c2 r n _ (hJ.bel (by (repeat (first | exact Bel.refl _ | assumption | refine Bel.drew ?_ | refine Bel.drewN ?_ _ | refine Bel.alloc ?_ _ | refine Bel.setCell ?_ (by first | omega | (simp; done) | (simp; omega) | (simp at *; omega)) _ | refine Bel.trans ?_ (by assumption))))) HL2.out hx2 n1 n13).mono ?_
              rintro e w2 ⟨rfl, hb2⟩
              rw [s2]
              go_wp2
              go_ret
              exact ⟨ret_int HE.out.symm, by (repeat (first | exact Bel.refl _ | assumption | refine Bel.drew ?_ | refine Bel.drewN ?_ _ | refine Bel.alloc ?_ _ | refine Bel.setCell ?_ (by first | omega | (simp; done) | (simp; omega) | (simp at *; omega)) _ | refine Bel.trans ?_ (by assumption)))⟩
            · go_wp2_with fail
              refine (rIsSet_any A1 c1n c1 l n _ (hI.bel (by (repeat (first | exact Bel.refl _ | assumption | refine Bel.drew ?_ | refine Bel.drewN ?_ _ | refine Bel.alloc ?_ _ | refine Bel.setCell ?_ (by first | omega | (simp; done) | (simp; omega) | (simp at *; omega)) _ | refine Bel.trans ?_ (by assumption))))) HL1.out hx1 n1 n13).mono ?_
              rintro e w1 ⟨rfl, hb1⟩
              rw [s1]
              obtain ⟨q3, q4⟩ := Held.out w1 (by (repeat (first | exact Bel.refl _ | assumption | refine Bel.drew ?_ | refine Bel.drewN ?_ _ | refine Bel.alloc ?_ _ | refine Bel.setCell ?_ (by first | omega | (simp; done) | (simp; omega) | (simp at *; omega)) _ | refine Bel.trans ?_ (by assumption))))
              clear q1 q2
              go_wp2_with fail
              refine (rIsSet_any A2 c2n c2 r n _ (hJ.bel (by (repeat (first | exact Bel.refl _ | assumption | refine Bel.drew ?_ | refine Bel.drewN ?_ _ | refine Bel.alloc ?_ _ | refine Bel.setCell ?_ (by first | omega | (simp; done) | (simp; omega) | (simp at *; omega)) _ | refine Bel.trans ?_ (by assumption))))) HL2.out hx2 n1 n13).mono ?_
              rintro e w2 ⟨rfl, hb2⟩
              rw [s2]
              have hb02 : Bel w w2 := by (repeat (first | exact Bel.refl _ | assumption | refine Bel.drew ?_ | refine Bel.drewN ?_ _ | refine Bel.alloc ?_ _ | refine Bel.setCell ?_ (by first | omega | (simp; done) | (simp; omega) | (simp at *; omega)) _ | refine Bel.trans ?_ (by assumption)))
              clear q3 q4 hb1 hb2
              have S1 := Lib.hid s1; have S2 := Lib.hid s2
              clear s1 s2
              have h63 : (c1n : Int) ≤ 9223372036854775807 := by unfold maxLen at hx1; omega
              have h64 : (c2n : Int) ≤ 9223372036854775807 := by unfold maxLen at hx2; omega
              go_wp2
              go_loopw [6] (fun i wr => ∃ p : Nat, p ≤ c1n ∧ i = .int .i64 p ∧ Bel w wr ∧ ∀ (j : Nat) (u : Int), j < p → l[j]? = some u → hasB r u = false) (fun i _ => c1n - (intOf i).toNat)
              case atStart => exact ⟨0, Nat.zero_le _, rfl, hb02, fun j u hj => by omega⟩
              case round =>
                obtain ⟨p, hp, rfl, hbp, hz⟩ := hrel
                have HZ := Lib.hid hz
                clear hz
                obtain ⟨q1, q2⟩ := Held.out wr hbp
                by_cases hpl : p < c1n
                · obtain ⟨b1, o1, x, rfl, hb1l, hg1, d1'⟩ := hI.at_ (k := p) (by rw [HL1.out]; exact hpl)
                  have HG1 := Lib.hid hg1
                  have hpi : (p : Int) < (c1n : Int) := by omega
                  have hp0 : (0 : Int) ≤ (p : Int) := by omega
                  have Held2 : Hid (∀ w', Bel w w' → w'.cell? ⟨b1, o1 + p, none⟩ = some (.int .i64 x)) := fun w' h => by rw [h.use.1 _ _ hb1l]; exact d1'
                  have d1 := Held2.out wr hbp
                  clear hg1 d1'
                  cases hq : hasB r x
                  · have HQ := Lib.hid hq
                    have HCALL : Hid (∀ W, Bel w W → Calls Try.prog 85 #[.slice A2 c2n c2, .int .i64 x] W fun e w' => e = .returned (.bool false) ∧ W = w') := fun W h => by
                      rw [← hq]
                      exact rHas_any A2 c2n c2 r x _ (hJ.bel h) HL2.out hx2
                    go_wp2
                    go_quiet ((go_at_call 85; exact Calls.quiet_of_same ((HCALL.out _ (by (repeat (first | exact Bel.refl _ | assumption | refine Bel.drew ?_ | refine Bel.drewN ?_ _ | refine Bel.alloc ?_ _ | refine Bel.setCell ?_ (by first | omega | (simp; done) | (simp; omega) | (simp at *; omega)) _ | refine Bel.trans ?_ (by assumption))))).mono fun _ _ h => ⟨h.1, h.2.symm⟩)))
                    go_wp2
                    go_roundw
                    case rel => exact ⟨p + 1, by omega, by go_num, by (repeat (first | exact Bel.refl _ | assumption | refine Bel.drew ?_ | refine Bel.drewN ?_ _ | refine Bel.alloc ?_ _ | refine Bel.setCell ?_ (by first | omega | (simp; done) | (simp; omega) | (simp at *; omega)) _ | refine Bel.trans ?_ (by assumption))), fun j u hj hu => by
                      rcases (by omega : j < p ∨ j = p) with h | rfl
                      · exact HZ.out j u h hu
                      · rw [HG1.out] at hu; injection hu with hu; subst hu; exact HQ.out⟩
                    case measure => simp [intOf]; omega
                  · have HCALL : Hid (∀ W, Bel w W → Calls Try.prog 85 #[.slice A2 c2n c2, .int .i64 x] W fun e w' => e = .returned (.bool true) ∧ W = w') := fun W h => by
                      rw [← hq]
                      exact rHas_any A2 c2n c2 r x _ (hJ.bel h) HL2.out hx2
                    have ht := errW_twice S1.out S2.out (any_yes HG1.out hq)
                    have HS := Lib.hid (errPs_stop HA.out HG.out (by rw [ht]; decide))
                    rw [ht] at HS
                    rw [HS.out] at HE
                    clear hq ht
                    go_wp2
                    go_quiet ((go_at_call 85; exact Calls.quiet_of_same ((HCALL.out _ (by (repeat (first | exact Bel.refl _ | assumption | refine Bel.drew ?_ | refine Bel.drewN ?_ _ | refine Bel.alloc ?_ _ | refine Bel.setCell ?_ (by first | omega | (simp; done) | (simp; omega) | (simp at *; omega)) _ | refine Bel.trans ?_ (by assumption))))).mono fun _ _ h => ⟨h.1, h.2.symm⟩)))
                    go_wp2
                    go_ret
                    exact ⟨ret_int HE.out.symm, by (repeat (first | exact Bel.refl _ | assumption | refine Bel.drew ?_ | refine Bel.drewN ?_ _ | refine Bel.alloc ?_ _ | refine Bel.setCell ?_ (by first | omega | (simp; done) | (simp; omega) | (simp at *; omega)) _ | refine Bel.trans ?_ (by assumption)))⟩
                · obtain rfl : p = c1n := by omega
                  have ht := errW_len S1.out S2.out (any_no (r := r) (l := l) fun j u hu => HZ.out j u (by rw [← HL1.out]; exact (List.getElem?_eq_some_iff.1 hu).1) hu)
                  rw [HL1.out, HL2.out] at ht
                  by_cases heq : p = c2n
                  · subst heq
                    rw [if_pos rfl] at ht
                    have HS := Lib.hid (errPs_next HA.out HG.out ht)
                    clear ht
                    go_wp2
                    go_quiet (fail)
                    go_wp2
                    go_roundw
                    case rel => exact ⟨k + 1, by omega, by go_num, HS.out, by (repeat (first | exact Bel.refl _ | assumption | refine Bel.drew ?_ | refine Bel.drewN ?_ _ | refine Bel.alloc ?_ _ | refine Bel.setCell ?_ (by first | omega | (simp; done) | (simp; omega) | (simp at *; omega)) _ | refine Bel.trans ?_ (by assumption)))⟩
                    case measure => simp [intOf]; omega
                  · rw [if_neg heq] at ht
                    have HS := Lib.hid (errPs_stop HA.out HG.out (by rw [ht]; decide))
                    rw [ht] at HS
                    rw [HS.out] at HE
                    have hne : ((p : Int) != (c2n : Int)) = true := by simp; omega
                    have hne' : ¬ (p : Int) = (c2n : Int) := by omega
                    clear ht
                    go_wp2
                    go_quiet (fail)
                    go_wp2
                    go_ret
                    exact ⟨ret_int HE.out.symm, by (repeat (first | exact Bel.refl _ | assumption | refine Bel.drew ?_ | refine Bel.drewN ?_ _ | refine Bel.alloc ?_ _ | refine Bel.setCell ?_ (by first | omega | (simp; done) | (simp; omega) | (simp at *; omega)) _ | refine Bel.trans ?_ (by assumption)))⟩
        · obtain rfl : m = k := by omega
          have HX : Hid (errPs n P = 0) := by
            have := HA.out
            rw [List.take_of_length_le (by rw [Hm.out]; omega)] at this
            exact this
          rw [HX.out] at HE
          go_wp2
          go_ret
          exact ⟨ret_int HE.out.symm, hb⟩
    · have hm3 : ¬ (m : Int) ≤ 3 := by omega
      rw [if_neg h3] at HE
      go_enter Try.func44, Try.ntmps44
      go_wp2_with (first | (go_at_call 83; refine (within_yes _ _ _ _ HW.out).mono ?_; rintro e w1 ⟨rfl, rfl⟩))
      go_ret
      exact ⟨ret_int HE.out.symm, Bel.refl _⟩
  · rw [if_neg h1] at HE
    have HW := Lib.hid h1
    clear h1
    go_enter Try.func44, Try.ntmps44
    go_wp2_with (first | (go_at_call 83; refine (within_no _ _ _ _ HW.out).mono ?_; rintro e w1 ⟨rfl, rfl⟩))
    go_ret
    exact ⟨ret_int HE.out.symm, Bel.refl _⟩
end Go.Proofs.Ytmckoehkekkldaa
