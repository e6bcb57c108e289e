/- Run by the document, errors and all; CheckForbid by the program. -/
import Derived.Test.YtfjegdejfccgaaaX
namespace Go.Proofs.Ytfjegdejfccgaaa
open Go.RowKit

set_option maxRecDepth 100000 in
set_option maxHeartbeats 2000000 in
theorem rRun_any (A B : Option Addr) (n c m d : Nat) (X Y : List (List Int)) (T : Option Addr) (t u : Nat) (ts : List Int) (K : Option Addr) (k v : Nat) (ks : List Int) (r : Int) (w : World) (hS : Strk w A n B m X Y) (hT : Ints w T ts) (ht : ts.length = t) (hmax : t ≤ maxLen) (hK : Ints w K ks) (hk : ks.length = k) (hkm : k ≤ maxLen) :
    Calls Try.prog 59 #[.agg #[.slice A n c, .slice B m d], .slice T t u, .slice K k v, .int .i64 r] w (Three w (leftV X Y ts ks r) (madeV X Y ts ks r) (errU X Y ts ks r)) := by
  by_cases he : errR X Y ts ks = 0
  · by_cases hr : 0 ≤ r ∧ r ≤ 1000
    · exact rRun_go A B n c m d X Y T t u ts K k v ks r w hS hT ht hmax hK hk hkm he hr.1 hr.2
    · have Ht := Lib.hid ht; have Hk := Lib.hid hk
      have hu := errU_arg he hr
      have HU := Lib.hid hu
      have HV1 := Lib.hid (show leftV X Y ts ks r = [] by unfold leftV; rw [hu]; rfl)
      have HV2 := Lib.hid (show madeV X Y ts ks r = [] by unfold madeV; rw [hu]; rfl)
      have HZ := Lib.hid he
      have HIN := Lib.hid (show inB 0 1000 r = false from decide_eq_false hr)
      clear he hu ht hk hr
      go_enter Try.func59, Try.ntmps59
      go_wp2_with fail
      refine (stocked_any A B n c m d X Y T t u ts K k v ks _ (hS.bel (by (repeat (first | exact Bel.refl _ | assumption | refine Bel.drew ?_ | refine Bel.drewN ?_ _ | refine Bel.alloc ?_ _ | refine Bel.setCell ?_ (by first | omega | (simp; done) | (simp; omega) | (simp at *; omega)) _ | refine Bel.trans ?_ (by assumption))))) (hT.bel (by (repeat (first | exact Bel.refl _ | assumption | refine Bel.drew ?_ | refine Bel.drewN ?_ _ | refine Bel.alloc ?_ _ | refine Bel.setCell ?_ (by first | omega | (simp; done) | (simp; omega) | (simp at *; omega)) _ | refine Bel.trans ?_ (by assumption))))) Ht.out hmax (hK.bel (by (repeat (first | exact Bel.refl _ | assumption | refine Bel.drew ?_ | refine Bel.drewN ?_ _ | refine Bel.alloc ?_ _ | refine Bel.setCell ?_ (by first | omega | (simp; done) | (simp; omega) | (simp at *; omega)) _ | refine Bel.trans ?_ (by assumption))))) Hk.out hkm).mono ?_
      rintro e w1 ⟨rfl, hb1⟩
      rw [HZ.out]
      go_wp2_with fail
      refine (within_any r 0 1000 _).mono ?_
      rintro e w2 ⟨rfl, rfl⟩
      rw [HIN.out]
      go_wp2
      go_ret3
      exact ⟨none, 0, 0, none, 0, 0, ret_t3 HU.out.symm, by rw [HV1.out]; rfl, by rw [HV2.out]; rfl, by (repeat (first | exact Bel.refl _ | assumption | refine Bel.drew ?_ | refine Bel.drewN ?_ _ | refine Bel.alloc ?_ _ | refine Bel.setCell ?_ (by first | omega | (simp; done) | (simp; omega) | (simp at *; omega)) _ | refine Bel.trans ?_ (by assumption))), by rw [HV1.out]; exact .inl rfl, by rw [HV2.out]; exact .inl rfl⟩
  · have Ht := Lib.hid ht; have Hk := Lib.hid hk
    have hu := errU_bad (r := r) he
    have HV1 := Lib.hid (show leftV X Y ts ks r = [] by unfold leftV; rw [hu, if_neg he])
    have HV2 := Lib.hid (show madeV X Y ts ks r = [] by unfold madeV; rw [hu, if_neg he])
    obtain ⟨x, hx⟩ : ∃ x, x = errR X Y ts ks := ⟨_, rfl⟩
    have hne : (x != 0) = true := by rw [hx]; simpa using he
    rw [← hx] at hu
    have HX := Lib.hid hx
    have HU := Lib.hid hu
    clear he hx hu ht hk
    go_enter Try.func59, Try.ntmps59
    go_wp2_with fail
    refine (stocked_any A B n c m d X Y T t u ts K k v ks _ (hS.bel (by (repeat (first | exact Bel.refl _ | assumption | refine Bel.drew ?_ | refine Bel.drewN ?_ _ | refine Bel.alloc ?_ _ | refine Bel.setCell ?_ (by first | omega | (simp; done) | (simp; omega) | (simp at *; omega)) _ | refine Bel.trans ?_ (by assumption))))) (hT.bel (by (repeat (first | exact Bel.refl _ | assumption | refine Bel.drew ?_ | refine Bel.drewN ?_ _ | refine Bel.alloc ?_ _ | refine Bel.setCell ?_ (by first | omega | (simp; done) | (simp; omega) | (simp at *; omega)) _ | refine Bel.trans ?_ (by assumption))))) Ht.out hmax (hK.bel (by (repeat (first | exact Bel.refl _ | assumption | refine Bel.drew ?_ | refine Bel.drewN ?_ _ | refine Bel.alloc ?_ _ | refine Bel.setCell ?_ (by first | omega | (simp; done) | (simp; omega) | (simp at *; omega)) _ | refine Bel.trans ?_ (by assumption))))) Hk.out hkm).mono ?_
    rintro e w1 ⟨rfl, hb1⟩
    rw [← HX.out]
    go_wp2
    go_ret3
    exact ⟨none, 0, 0, none, 0, 0, ret_t3 HU.out.symm, by rw [HV1.out]; rfl, by rw [HV2.out]; rfl, by (repeat (first | exact Bel.refl _ | assumption | refine Bel.drew ?_ | refine Bel.drewN ?_ _ | refine Bel.alloc ?_ _ | refine Bel.setCell ?_ (by first | omega | (simp; done) | (simp; omega) | (simp at *; omega)) _ | refine Bel.trans ?_ (by assumption))), by rw [HV1.out]; exact .inl rfl, by rw [HV2.out]; exact .inl rfl⟩
/-- Do weights of compounds forbid a strike? -/
def fbB (a b : List Int) : Bool := !(decide (minI a < 0) || decide (0 < maxI b)) && !(maxI a == 0 && minI b == 0)
def errC (X Y : List (List Int)) (ws : List Int) : Int := if errW X Y ws = 0 then if fbB ((weighL X Y ws).take X.length) ((weighL X Y ws).drop X.length) then 0 else 7 else 1
theorem errW_cases (X Y : List (List Int)) (ws : List Int) : (errS X Y = 0 ∧ wtB X ws = true ∧ errW X Y ws = 0) ∨ errW X Y ws = 1 := by
  rcases errS_cases X Y with h | h
  · cases k : wtB X ws with
    | true => exact .inl ⟨h, rfl, errW_ok h k⟩
    | false => exact .inr (errW_no h k)
  · exact .inr (errW_bad h)
set_option maxRecDepth 100000 in
set_option maxHeartbeats 2000000 in
theorem checkForbid_any (A B : Option Addr) (n c m d : Nat) (X Y : List (List Int)) (T : Option Addr) (t u : Nat) (ws : List Int) (w : World) (hS : Strk w A n B m X Y) (hT : Ints w T ws) (ht : ws.length = t) (hmax : t ≤ maxLen) :
    Calls Try.prog 50 #[.agg #[.slice A n c, .slice B m d], .slice T t u] w fun e w' => e = .returned (.int .i64 (errC X Y ws)) ∧ Bel w w' := by
  have Ht := Lib.hid ht
  have Held := Lib.hid (fun w' (h : Bel (w.alloc (.cells #[.slice A n c, .slice B m d] 24)) w') => box_sl h)
  rcases errW_cases X Y ws with ⟨he, hb, hz⟩ | hz
  · have hSt := str_of he
    have HZ := Lib.hid hz
    have hX := hS.lx; have hY := hS.ly
    have n1 : 1 ≤ n := by rw [← hX]; exact hSt.x1
    have n3 : n ≤ 3 := by rw [← hX]; exact hSt.x3
    have m1 : 1 ≤ m := by rw [← hY]; exact hSt.y1
    have m3 : m ≤ 3 := by rw [← hY]; exact hSt.y3
    have HV := Lib.hid (show weighV X Y ws = weighL X Y ws by unfold weighV; rw [if_pos hz])
    have hwl : (weighL X Y ws).length = n + m := by unfold weighL; rw [List.length_map, List.length_append, hX, hY]
    have HF := Lib.hid (show errC X Y ws = if fbB ((weighL X Y ws).take n) ((weighL X Y ws).drop n) then 0 else 7 by unfold errC; rw [if_pos hz, hX])
    obtain ⟨l, hl⟩ : ∃ l, l = weighL X Y ws := ⟨_, rfl⟩
    rw [← hl] at hwl HV HF
    have HL1 := Lib.hid (show (l.take n).length = n by rw [List.length_take]; omega)
    have HL2 := Lib.hid (show (l.drop n).length = m by rw [List.length_drop]; omega)
    have HWL := Lib.hid hwl
    obtain ⟨a1, ha1⟩ : ∃ a1, a1 = minI (l.take n) := ⟨_, rfl⟩
    obtain ⟨a2, ha2⟩ : ∃ a2, a2 = maxI (l.take n) := ⟨_, rfl⟩
    obtain ⟨b1, hb1'⟩ : ∃ b1, b1 = minI (l.drop n) := ⟨_, rfl⟩
    obtain ⟨b2, hb2'⟩ : ∃ b2, b2 = maxI (l.drop n) := ⟨_, rfl⟩
    have HFF := Lib.hid (show errC X Y ws = if (!(decide (a1 < 0) || decide (0 < b2)) && !(a2 == 0 && b1 == 0)) = true then 0 else 7 by rw [HF.out, ha1, ha2, hb1', hb2']; rfl)
    have HA1 := Lib.hid ha1; have HA2 := Lib.hid ha2; have HB1 := Lib.hid hb1'; have HB2 := Lib.hid hb2'
    have hni : (n : Int) ≤ 3 := by omega
    have hmi : (m : Int) ≤ 3 := by omega
    have hmi1 : (1 : Int) ≤ (m : Int) := by omega
    have hni1 : (1 : Int) ≤ (n : Int) := by omega
    clear he hb hz ht hSt hX hY hwl hl ha1 ha2 hb1' hb2' HF
    go_enter Try.func50, Try.ntmps50
    go_wp2_with fail
    refine (weigh_cap A B n c m d X Y T t u ws _ (hS.bel (by (repeat (first | exact Bel.refl _ | assumption | refine Bel.drew ?_ | refine Bel.drewN ?_ _ | refine Bel.alloc ?_ _ | refine Bel.setCell ?_ (by first | omega | (simp; done) | (simp; omega) | (simp at *; omega)) _ | refine Bel.trans ?_ (by assumption))))) (hT.bel (by (repeat (first | exact Bel.refl _ | assumption | refine Bel.drew ?_ | refine Bel.drewN ?_ _ | refine Bel.alloc ?_ _ | refine Bel.setCell ?_ (by first | omega | (simp; done) | (simp; omega) | (simp at *; omega)) _ | refine Bel.trans ?_ (by assumption))))) Ht.out hmax).mono ?_
    rintro e w1 ⟨A9, n9, c9, rfl, hn9, hb1, hI9, hc9, hd9⟩
    rw [HZ.out]
    rw [HV.out] at hn9 hI9
    obtain rfl : n9 = n + m := by rw [hn9, HWL.out]
    obtain ⟨b, o, x0, rfl, hbl, _, _⟩ := hI9.at_ (k := 0) (by rw [HWL.out]; omega)
    obtain ⟨q0, q1⟩ := Held.out _ hb1
    have hw1 : Bel w w1 := ((Bel.refl w).alloc _).trans hb1
    have hc9i : (n : Int) + (m : Int) ≤ (c9 : Int) := by omega
    have hcn : c9 ≠ n := by omega
    have hcni : (n : Int) ≤ (c9 : Int) := by omega
    have hd9i : (c9 : Int) ≤ 9223372036854775807 := by unfold maxLen at hd9; omega
    have hI1 := hI9.take n
    have hI2 := hI9.drop n
    clear hn9
    go_wp2
    go_quiet (fail)
    have hnm : n ≤ maxLen := by unfold maxLen; omega
    have hmm : m ≤ maxLen := by unfold maxLen; omega
    by_cases h1 : a1 < 0
    · have HR := Lib.hid (show errC X Y ws = 7 by rw [HFF.out, decide_eq_true h1]; rfl)
      go_wp2_with fail
      refine (min_any _ n c9 (l.take n) _ (hI1.bel (by (repeat (first | exact Bel.refl _ | assumption | refine Bel.drew ?_ | refine Bel.drewN ?_ _ | refine Bel.alloc ?_ _ | refine Bel.setCell ?_ (by first | omega | (simp; done) | (simp; omega) | (simp at *; omega)) _ | refine Bel.trans ?_ (by assumption))))) HL1.out n1 hnm).mono ?_
      rintro e w2 ⟨rfl, rfl⟩
      rw [← HA1.out]
      go_wp2
      go_ret
      exact ⟨ret_int HR.out.symm, by (repeat (first | exact Bel.refl _ | assumption | refine Bel.drew ?_ | refine Bel.drewN ?_ _ | refine Bel.alloc ?_ _ | refine Bel.setCell ?_ (by first | omega | (simp; done) | (simp; omega) | (simp at *; omega)) _ | refine Bel.trans ?_ (by assumption)))⟩
    · have h1' : 0 ≤ a1 := by omega
      by_cases h2 : 0 < b2
      · have HR := Lib.hid (show errC X Y ws = 7 by rw [HFF.out, decide_eq_true h2, Bool.or_true]; rfl)
        clear h1
        go_wp2_with fail
        refine (min_any _ n c9 (l.take n) _ (hI1.bel (by (repeat (first | exact Bel.refl _ | assumption | refine Bel.drew ?_ | refine Bel.drewN ?_ _ | refine Bel.alloc ?_ _ | refine Bel.setCell ?_ (by first | omega | (simp; done) | (simp; omega) | (simp at *; omega)) _ | refine Bel.trans ?_ (by assumption))))) HL1.out n1 hnm).mono ?_
        rintro e w2 ⟨rfl, rfl⟩
        rw [← HA1.out]
        go_wp2_with fail
        refine (max_any _ m (c9 - n) (l.drop n) _ (hI2.bel (by (repeat (first | exact Bel.refl _ | assumption | refine Bel.drew ?_ | refine Bel.drewN ?_ _ | refine Bel.alloc ?_ _ | refine Bel.setCell ?_ (by first | omega | (simp; done) | (simp; omega) | (simp at *; omega)) _ | refine Bel.trans ?_ (by assumption))))) HL2.out m1 hmm).mono ?_
        rintro e w2 ⟨rfl, rfl⟩
        rw [← HB2.out]
        go_wp2
        go_ret
        exact ⟨ret_int HR.out.symm, by (repeat (first | exact Bel.refl _ | assumption | refine Bel.drew ?_ | refine Bel.drewN ?_ _ | refine Bel.alloc ?_ _ | refine Bel.setCell ?_ (by first | omega | (simp; done) | (simp; omega) | (simp at *; omega)) _ | refine Bel.trans ?_ (by assumption)))⟩
      · have h2' : b2 ≤ 0 := by omega
        by_cases h3 : a2 = 0
        · by_cases h4 : b1 = 0
          · have HR := Lib.hid (show errC X Y ws = 7 by rw [HFF.out, h3, h4, Bool.and_comm]; rfl)
            have h3' : (a2 == 0) = true := by simpa using h3
            have h4' : (b1 == 0) = true := by simpa using h4
            clear h1 h2 h3 h4
            go_wp2_with fail
            refine (min_any _ n c9 (l.take n) _ (hI1.bel (by (repeat (first | exact Bel.refl _ | assumption | refine Bel.drew ?_ | refine Bel.drewN ?_ _ | refine Bel.alloc ?_ _ | refine Bel.setCell ?_ (by first | omega | (simp; done) | (simp; omega) | (simp at *; omega)) _ | refine Bel.trans ?_ (by assumption))))) HL1.out n1 hnm).mono ?_
            rintro e w2 ⟨rfl, rfl⟩
            rw [← HA1.out]
            go_wp2_with fail
            refine (max_any _ m (c9 - n) (l.drop n) _ (hI2.bel (by (repeat (first | exact Bel.refl _ | assumption | refine Bel.drew ?_ | refine Bel.drewN ?_ _ | refine Bel.alloc ?_ _ | refine Bel.setCell ?_ (by first | omega | (simp; done) | (simp; omega) | (simp at *; omega)) _ | refine Bel.trans ?_ (by assumption))))) HL2.out m1 hmm).mono ?_
            rintro e w2 ⟨rfl, rfl⟩
            rw [← HB2.out]
            go_wp2_with fail
            refine (max_any _ n c9 (l.take n) _ (hI1.bel (by (repeat (first | exact Bel.refl _ | assumption | refine Bel.drew ?_ | refine Bel.drewN ?_ _ | refine Bel.alloc ?_ _ | refine Bel.setCell ?_ (by first | omega | (simp; done) | (simp; omega) | (simp at *; omega)) _ | refine Bel.trans ?_ (by assumption))))) HL1.out n1 hnm).mono ?_
            rintro e w2 ⟨rfl, rfl⟩
            rw [← HA2.out]
            go_wp2_with fail
            refine (min_any _ m (c9 - n) (l.drop n) _ (hI2.bel (by (repeat (first | exact Bel.refl _ | assumption | refine Bel.drew ?_ | refine Bel.drewN ?_ _ | refine Bel.alloc ?_ _ | refine Bel.setCell ?_ (by first | omega | (simp; done) | (simp; omega) | (simp at *; omega)) _ | refine Bel.trans ?_ (by assumption))))) HL2.out m1 hmm).mono ?_
            rintro e w2 ⟨rfl, rfl⟩
            rw [← HB1.out]
            go_wp2
            go_ret
            exact ⟨ret_int HR.out.symm, by (repeat (first | exact Bel.refl _ | assumption | refine Bel.drew ?_ | refine Bel.drewN ?_ _ | refine Bel.alloc ?_ _ | refine Bel.setCell ?_ (by first | omega | (simp; done) | (simp; omega) | (simp at *; omega)) _ | refine Bel.trans ?_ (by assumption)))⟩
          · have h4' : (b1 == 0) = false := by simpa using h4
            have HR := Lib.hid (show errC X Y ws = 0 by rw [HFF.out, decide_eq_false h1, decide_eq_false h2, h4', Bool.and_false]; rfl)
            have h3' : (a2 == 0) = true := by simpa using h3
            clear h1 h2 h3 h4
            go_wp2_with fail
            refine (min_any _ n c9 (l.take n) _ (hI1.bel (by (repeat (first | exact Bel.refl _ | assumption | refine Bel.drew ?_ | refine Bel.drewN ?_ _ | refine Bel.alloc ?_ _ | refine Bel.setCell ?_ (by first | omega | (simp; done) | (simp; omega) | (simp at *; omega)) _ | refine Bel.trans ?_ (by assumption))))) HL1.out n1 hnm).mono ?_
            rintro e w2 ⟨rfl, rfl⟩
            rw [← HA1.out]
            go_wp2_with fail
            refine (max_any _ m (c9 - n) (l.drop n) _ (hI2.bel (by (repeat (first | exact Bel.refl _ | assumption | refine Bel.drew ?_ | refine Bel.drewN ?_ _ | refine Bel.alloc ?_ _ | refine Bel.setCell ?_ (by first | omega | (simp; done) | (simp; omega) | (simp at *; omega)) _ | refine Bel.trans ?_ (by assumption))))) HL2.out m1 hmm).mono ?_
            rintro e w2 ⟨rfl, rfl⟩
            rw [← HB2.out]
            go_wp2_with fail
            refine (max_any _ n c9 (l.take n) _ (hI1.bel (by (repeat (first | exact Bel.refl _ | assumption | refine Bel.drew ?_ | refine Bel.drewN ?_ _ | refine Bel.alloc ?_ _ | refine Bel.setCell ?_ (by first | omega | (simp; done) | (simp; omega) | (simp at *; omega)) _ | refine Bel.trans ?_ (by assumption))))) HL1.out n1 hnm).mono ?_
            rintro e w2 ⟨rfl, rfl⟩
            rw [← HA2.out]
            go_wp2_with fail
            refine (min_any _ m (c9 - n) (l.drop n) _ (hI2.bel (by (repeat (first | exact Bel.refl _ | assumption | refine Bel.drew ?_ | refine Bel.drewN ?_ _ | refine Bel.alloc ?_ _ | refine Bel.setCell ?_ (by first | omega | (simp; done) | (simp; omega) | (simp at *; omega)) _ | refine Bel.trans ?_ (by assumption))))) HL2.out m1 hmm).mono ?_
            rintro e w2 ⟨rfl, rfl⟩
            rw [← HB1.out]
            go_wp2
            go_ret
            exact ⟨ret_int HR.out.symm, by (repeat (first | exact Bel.refl _ | assumption | refine Bel.drew ?_ | refine Bel.drewN ?_ _ | refine Bel.alloc ?_ _ | refine Bel.setCell ?_ (by first | omega | (simp; done) | (simp; omega) | (simp at *; omega)) _ | refine Bel.trans ?_ (by assumption)))⟩
        · have h3' : (a2 == 0) = false := by simpa using h3
          have HR := Lib.hid (show errC X Y ws = 0 by rw [HFF.out, decide_eq_false h1, decide_eq_false h2, h3']; rfl)
          clear h1 h2 h3
          go_wp2_with fail
          refine (min_any _ n c9 (l.take n) _ (hI1.bel (by (repeat (first | exact Bel.refl _ | assumption | refine Bel.drew ?_ | refine Bel.drewN ?_ _ | refine Bel.alloc ?_ _ | refine Bel.setCell ?_ (by first | omega | (simp; done) | (simp; omega) | (simp at *; omega)) _ | refine Bel.trans ?_ (by assumption))))) HL1.out n1 hnm).mono ?_
          rintro e w2 ⟨rfl, rfl⟩
          rw [← HA1.out]
          go_wp2_with fail
          refine (max_any _ m (c9 - n) (l.drop n) _ (hI2.bel (by (repeat (first | exact Bel.refl _ | assumption | refine Bel.drew ?_ | refine Bel.drewN ?_ _ | refine Bel.alloc ?_ _ | refine Bel.setCell ?_ (by first | omega | (simp; done) | (simp; omega) | (simp at *; omega)) _ | refine Bel.trans ?_ (by assumption))))) HL2.out m1 hmm).mono ?_
          rintro e w2 ⟨rfl, rfl⟩
          rw [← HB2.out]
          go_wp2_with fail
          refine (max_any _ n c9 (l.take n) _ (hI1.bel (by (repeat (first | exact Bel.refl _ | assumption | refine Bel.drew ?_ | refine Bel.drewN ?_ _ | refine Bel.alloc ?_ _ | refine Bel.setCell ?_ (by first | omega | (simp; done) | (simp; omega) | (simp at *; omega)) _ | refine Bel.trans ?_ (by assumption))))) HL1.out n1 hnm).mono ?_
          rintro e w2 ⟨rfl, rfl⟩
          rw [← HA2.out]
          go_wp2
          go_ret
          exact ⟨ret_int HR.out.symm, by (repeat (first | exact Bel.refl _ | assumption | refine Bel.drew ?_ | refine Bel.drewN ?_ _ | refine Bel.alloc ?_ _ | refine Bel.setCell ?_ (by first | omega | (simp; done) | (simp; omega) | (simp at *; omega)) _ | refine Bel.trans ?_ (by assumption)))⟩
  · have HZ := Lib.hid hz
    have HF := Lib.hid (show errC X Y ws = 1 by unfold errC; rw [hz]; rfl)
    clear hz ht
    go_enter Try.func50, Try.ntmps50
    go_wp2_with fail
    refine (weigh_any A B n c m d X Y T t u ws _ (hS.bel (by (repeat (first | exact Bel.refl _ | assumption | refine Bel.drew ?_ | refine Bel.drewN ?_ _ | refine Bel.alloc ?_ _ | refine Bel.setCell ?_ (by first | omega | (simp; done) | (simp; omega) | (simp at *; omega)) _ | refine Bel.trans ?_ (by assumption))))) (hT.bel (by (repeat (first | exact Bel.refl _ | assumption | refine Bel.drew ?_ | refine Bel.drewN ?_ _ | refine Bel.alloc ?_ _ | refine Bel.setCell ?_ (by first | omega | (simp; done) | (simp; omega) | (simp at *; omega)) _ | refine Bel.trans ?_ (by assumption))))) Ht.out hmax).mono ?_
    rintro e w1 ⟨A9, n9, c9, rfl, hn9, hb1, hI9⟩
    rw [HZ.out]
    clear hn9
    go_wp2
    go_ret
    exact ⟨ret_int HF.out.symm, by (repeat (first | exact Bel.refl _ | assumption | refine Bel.drew ?_ | refine Bel.drewN ?_ _ | refine Bel.alloc ?_ _ | refine Bel.setCell ?_ (by first | omega | (simp; done) | (simp; omega) | (simp at *; omega)) _ | refine Bel.trans ?_ (by assumption)))⟩
end Go.Proofs.Ytfjegdejfccgaaa
