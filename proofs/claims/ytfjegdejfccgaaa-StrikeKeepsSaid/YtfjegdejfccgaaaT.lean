/- Elements by the document, errors and all; the errors of runs. -/
import Derived.Test.YtfjegdejfccgaaaS
namespace Go.Proofs.Ytfjegdejfccgaaa
open Go.RowKit

set_option maxRecDepth 100000 in
set_option maxHeartbeats 1000000 in
theorem rElements_any (A B : Option Addr) (n c m d : Nat) (X Y : List (List Int)) (T : Option Addr) (t u : Nat) (ts : List Int) (w : World) (hS : Strk w A n B m X Y) (hT : Ints w T ts) (ht : ts.length = t) (hmax : t ≤ maxLen) :
    Calls Try.prog 54 #[.agg #[.slice A n c, .slice B m d], .slice T t u] w (Three w (inV X Y ts) (outV X Y ts) (errT X Y ts)) := by
  rcases errT_cases X Y ts with ⟨he, hb, hz⟩ | hz
  · refine (rElements_ok A B n c m d X Y T t u ts w hS hT ht hmax he hb).mono ?_
    rintro e w' ⟨A1, n1, c1, A2, n2, c2, rfl, h1, h2, h3, h4, h5⟩
    have e1 : inV X Y ts = inL X ts := by unfold inV; rw [if_pos hz]
    have e2 : outV X Y ts = outL X Y ts := by unfold outV; rw [if_pos hz]
    exact ⟨A1, n1, c1, A2, n2, c2, by rw [hz], by rw [e1]; exact h1, by rw [e2]; exact h2, h3, by rw [e1]; exact h4, by rw [e2]; exact h5⟩
  · have HZ := Lib.hid hz
    have HV1 := Lib.hid (show inV X Y ts = [] by unfold inV; rw [hz]; rfl)
    have HV2 := Lib.hid (show outV X Y ts = [] by unfold outV; rw [hz]; rfl)
    have Ht := Lib.hid ht
    clear hz ht
    go_enter Try.func54, Try.ntmps54
    go_wp2_with fail
    refine (timed_any A B n c m d X Y _ t u ts _ (hS.bel (by (repeat (first | exact Bel.refl _ | assumption | refine Bel.drew ?_ | refine Bel.drewN ?_ _ | refine Bel.alloc ?_ _ | refine Bel.setCell ?_ (by first | omega | (simp; done) | (simp; omega) | (simp at *; omega)) _ | refine Bel.trans ?_ (by assumption))))) (hT.bel (by (repeat (first | exact Bel.refl _ | assumption | refine Bel.drew ?_ | refine Bel.drewN ?_ _ | refine Bel.alloc ?_ _ | refine Bel.setCell ?_ (by first | omega | (simp; done) | (simp; omega) | (simp at *; omega)) _ | refine Bel.trans ?_ (by assumption))))) Ht.out hmax).mono ?_
    rintro e w1 ⟨rfl, hb1⟩
    rw [HZ.out]
    go_wp2
    go_ret3
    exact ⟨none, 0, 0, none, 0, 0, ret_t3 HZ.out.symm, by rw [HV1.out]; rfl, by rw [HV2.out]; rfl, by (repeat (first | exact Bel.refl _ | assumption | refine Bel.drew ?_ | refine Bel.drewN ?_ _ | refine Bel.alloc ?_ _ | refine Bel.setCell ?_ (by first | omega | (simp; done) | (simp; omega) | (simp at *; omega)) _ | refine Bel.trans ?_ (by assumption))), by rw [HV1.out]; exact .inl rfl, by rw [HV2.out]; exact .inl rfl⟩
/-- Is the stock right? -/
def stB (X : List (List Int)) (ks : List Int) : Bool := listB 0 1000 ks (X.length : Nat)
def posB (ts : List Int) : Bool := ts.all fun t => decide (1 ≤ t)
/-- The error of runs. -/
def errR (X Y : List (List Int)) (ts ks : List Int) : Int := if errT X Y ts = 0 then if stB X ks then if posB ts && balB X Y ts then 0 else 8 else 1 else 1
theorem errR_bad {X Y : List (List Int)} {ts ks : List Int} (h : errT X Y ts = 1) : errR X Y ts ks = 1 := by unfold errR; rw [h]; rfl
theorem errR_st {X Y : List (List Int)} {ts ks : List Int} (h : errT X Y ts = 0) (k : stB X ks = false) : errR X Y ts ks = 1 := by unfold errR; rw [if_pos h, k]; rfl
theorem errR_go {X Y : List (List Int)} {ts ks : List Int} (h : errT X Y ts = 0) (k : stB X ks = true) : errR X Y ts ks = if posB ts && balB X Y ts then 0 else 8 := by unfold errR; rw [if_pos h, k]; rfl
theorem errR_cases {X Y : List (List Int)} {ts ks : List Int} (h : errR X Y ts ks = 0) : errT X Y ts = 0 ∧ stB X ks = true ∧ posB ts = true ∧ balB X Y ts = true := by
  rcases errT_cases X Y ts with ⟨_, _, hz⟩ | hz
  · cases hs : stB X ks with
    | false => rw [errR_st hz hs] at h; cases h
    | true =>
      rw [errR_go hz hs] at h
      cases hp : posB ts <;> cases hb : balB X Y ts <;> rw [hp, hb] at h <;> first | cases h; done | skip
      exact ⟨hz, rfl, rfl, rfl⟩
  · rw [errR_bad hz] at h; cases h
theorem minI_le {l : List Int} {x : Int} (h : x ∈ l) : minI l ≤ x := by
  revert h
  refine snocI (P := fun l => x ∈ l → minI l ≤ x) ?_ ?_ l
  · intro h; cases h
  · intro l y ih h
    by_cases hn : l = []
    · subst hn; simp at h; subst h; simp [minI]
    · rw [minI_snoc hn]
      rcases List.mem_append.1 h with h | h
      · have := ih h; omega
      · simp at h; omega
theorem minI_mem {l : List Int} (h : l ≠ []) : minI l ∈ l := by
  revert h
  refine snocI (P := fun l => l ≠ [] → minI l ∈ l) ?_ ?_ l
  · intro h; exact absurd rfl h
  · intro l y ih _
    by_cases hn : l = []
    · subst hn; simp [minI]
    · rw [minI_snoc hn]
      rcases (by omega : min (minI l) y = minI l ∨ min (minI l) y = y) with h | h
      · rw [h]; exact List.mem_append.2 (.inl (ih hn))
      · rw [h]; simp
theorem maxI_ge {l : List Int} {x : Int} (h : x ∈ l) : x ≤ maxI l := by
  revert h
  refine snocI (P := fun l => x ∈ l → x ≤ maxI l) ?_ ?_ l
  · intro h; cases h
  · intro l y ih h
    by_cases hn : l = []
    · subst hn; simp at h; subst h; simp [maxI]
    · rw [maxI_snoc hn]
      rcases List.mem_append.1 h with h | h
      · have := ih h; omega
      · simp at h; omega
theorem maxI_mem {l : List Int} (h : l ≠ []) : maxI l ∈ l := by
  revert h
  refine snocI (P := fun l => l ≠ [] → maxI l ∈ l) ?_ ?_ l
  · intro h; exact absurd rfl h
  · intro l y ih _
    by_cases hn : l = []
    · subst hn; simp [maxI]
    · rw [maxI_snoc hn]
      rcases (by omega : max (maxI l) y = maxI l ∨ max (maxI l) y = y) with h | h
      · rw [h]; exact List.mem_append.2 (.inl (ih hn))
      · rw [h]; simp
theorem pos_min {ts : List Int} (h : ts ≠ []) : posB ts = decide (0 < minI ts) := by
  unfold posB
  rw [Bool.eq_iff_iff, List.all_eq_true, decide_eq_true_iff]
  constructor
  · intro k
    have := of_decide_eq_true (k _ (minI_mem h))
    omega
  · intro k t ht
    have := minI_le ht
    exact decide_eq_true (by omega)
set_option maxRecDepth 100000 in
set_option maxHeartbeats 1000000 in
theorem validateRuns_any (A B : Option Addr) (n c m d : Nat) (X Y : List (List Int)) (T : Option Addr) (t u : Nat) (ts : List Int) (K : Option Addr) (k v : Nat) (ks : List Int) (w : World) (hS : Strk w A n B m X Y) (hT : Ints w T ts) (ht : ts.length = t) (htu : t ≤ u) (hmax : u ≤ maxLen) (hK : Ints w K ks) (hk : ks.length = k) (hkm : k ≤ maxLen) :
    Calls Try.prog 104 #[.agg #[.slice A n c, .slice B m d], .slice T t u, .slice K k v] w fun e w' => e = .returned (.int .i64 (errR X Y ts ks)) ∧ Bel w w' := by
  have Ht := Lib.hid ht; have Hk := Lib.hid hk
  have Held := Lib.hid (fun w' (h : Bel (w.alloc (.cells #[.slice A n c, .slice B m d] 24)) w') => box_sl h)
  have htm := Nat.le_trans htu hmax
  rcases errT_cases X Y ts with ⟨he, hb, hz⟩ | hz
  · have HZ := Lib.hid hz
    have HX := Lib.hid hS.lx
    have HNM := Lib.hid (show stB X ks = listB 0 1000 ks (n : Int) by unfold stB; rw [HX.out])
    cases hs : stB X ks with
    | false =>
      have HST := Lib.hid hs
      have HF := Lib.hid (errR_st hz hs)
      clear he hb hz ht hk hs
      go_enter Try.func104, Try.ntmps104
      go_wp2_with fail
      refine (validateTimes_any A B n c m d X Y _ t u ts _ (hS.bel (by (repeat (first | exact Bel.refl _ | assumption | refine Bel.drew ?_ | refine Bel.drewN ?_ _ | refine Bel.alloc ?_ _ | refine Bel.setCell ?_ (by first | omega | (simp; done) | (simp; omega) | (simp at *; omega)) _ | refine Bel.trans ?_ (by assumption))))) (hT.bel (by (repeat (first | exact Bel.refl _ | assumption | refine Bel.drew ?_ | refine Bel.drewN ?_ _ | refine Bel.alloc ?_ _ | refine Bel.setCell ?_ (by first | omega | (simp; done) | (simp; omega) | (simp at *; omega)) _ | refine Bel.trans ?_ (by assumption))))) Ht.out htm).mono ?_
      rintro e w1 ⟨rfl, hb1⟩
      rw [HZ.out]
      obtain ⟨q0, q1⟩ := Held.out _ hb1
      go_wp2_with fail
      refine (areWithin_any K k v ks (n : Int) 0 1000 _ (hK.bel (((Bel.refl w).alloc _).trans hb1)) Hk.out hkm).mono ?_
      rintro e w2 ⟨rfl, rfl⟩
      rw [← HNM.out, HST.out]
      go_wp2
      go_ret
      exact ⟨ret_int HF.out.symm, by (repeat (first | exact Bel.refl _ | assumption | refine Bel.drew ?_ | refine Bel.drewN ?_ _ | refine Bel.alloc ?_ _ | refine Bel.setCell ?_ (by first | omega | (simp; done) | (simp; omega) | (simp at *; omega)) _ | refine Bel.trans ?_ (by assumption)))⟩
    | true =>
      have HST := Lib.hid hs
      have hf := errR_go hz hs
      have hV := balV_ok hz
      have hts : ts ≠ [] := by
        have h1 := (tm_of hb).2
        have h2 := (str_of he).x1
        intro e; rw [e] at h1; simp at h1; omega
      have h1t : 1 ≤ t := by
        rw [← ht]; exact List.length_pos_iff.2 hts
      have hpm := pos_min hts
      obtain ⟨mi, hmi⟩ : ∃ mi, mi = minI ts := ⟨_, rfl⟩
      rw [← hmi] at hpm
      have HMI := Lib.hid hmi
      cases hbal : balB X Y ts with
      | false =>
        have HV := Lib.hid (hV.trans hbal)
        have HF := Lib.hid (show errR X Y ts ks = 8 by rw [hf, hbal, Bool.and_false]; rfl)
        clear he hb hz ht hk hs hf hV hpm hmi hts hbal
        go_enter Try.func104, Try.ntmps104
        go_wp2_with fail
        refine (validateTimes_any A B n c m d X Y _ t u ts _ (hS.bel (by (repeat (first | exact Bel.refl _ | assumption | refine Bel.drew ?_ | refine Bel.drewN ?_ _ | refine Bel.alloc ?_ _ | refine Bel.setCell ?_ (by first | omega | (simp; done) | (simp; omega) | (simp at *; omega)) _ | refine Bel.trans ?_ (by assumption))))) (hT.bel (by (repeat (first | exact Bel.refl _ | assumption | refine Bel.drew ?_ | refine Bel.drewN ?_ _ | refine Bel.alloc ?_ _ | refine Bel.setCell ?_ (by first | omega | (simp; done) | (simp; omega) | (simp at *; omega)) _ | refine Bel.trans ?_ (by assumption))))) Ht.out htm).mono ?_
        rintro e w1 ⟨rfl, hb1⟩
        rw [HZ.out]
        obtain ⟨q0, q1⟩ := Held.out _ hb1
        go_wp2_with fail
        refine (areWithin_any K k v ks (n : Int) 0 1000 _ (hK.bel (((Bel.refl w).alloc _).trans hb1)) Hk.out hkm).mono ?_
        rintro e w2 ⟨rfl, rfl⟩
        rw [← HNM.out, HST.out]
        go_wp2_with fail
        refine (balances_any A B n c m d X Y T t u ts _ (hS.bel (((Bel.refl w).alloc _).trans hb1)) (hT.bel (((Bel.refl w).alloc _).trans hb1)) Ht.out htu hmax).mono ?_
        rintro e w3 ⟨rfl, hb3⟩
        rw [HV.out, HZ.out]
        go_wp2
        go_ret
        exact ⟨ret_int HF.out.symm, by (repeat (first | exact Bel.refl _ | assumption | refine Bel.drew ?_ | refine Bel.drewN ?_ _ | refine Bel.alloc ?_ _ | refine Bel.setCell ?_ (by first | omega | (simp; done) | (simp; omega) | (simp at *; omega)) _ | refine Bel.trans ?_ (by assumption)))⟩
      | true =>
        have HV := Lib.hid (hV.trans hbal)
        by_cases hp : mi ≤ 0
        · have HF := Lib.hid (show errR X Y ts ks = 8 by rw [hf, hpm, decide_eq_false (by omega)]; rfl)
          clear he hb hz ht hk hs hf hV hpm hmi hts hbal
          go_enter Try.func104, Try.ntmps104
          go_wp2_with fail
          refine (validateTimes_any A B n c m d X Y _ t u ts _ (hS.bel (by (repeat (first | exact Bel.refl _ | assumption | refine Bel.drew ?_ | refine Bel.drewN ?_ _ | refine Bel.alloc ?_ _ | refine Bel.setCell ?_ (by first | omega | (simp; done) | (simp; omega) | (simp at *; omega)) _ | refine Bel.trans ?_ (by assumption))))) (hT.bel (by (repeat (first | exact Bel.refl _ | assumption | refine Bel.drew ?_ | refine Bel.drewN ?_ _ | refine Bel.alloc ?_ _ | refine Bel.setCell ?_ (by first | omega | (simp; done) | (simp; omega) | (simp at *; omega)) _ | refine Bel.trans ?_ (by assumption))))) Ht.out htm).mono ?_
          rintro e w1 ⟨rfl, hb1⟩
          rw [HZ.out]
          obtain ⟨q0, q1⟩ := Held.out _ hb1
          go_wp2_with fail
          refine (areWithin_any K k v ks (n : Int) 0 1000 _ (hK.bel (((Bel.refl w).alloc _).trans hb1)) Hk.out hkm).mono ?_
          rintro e w2 ⟨rfl, rfl⟩
          rw [← HNM.out, HST.out]
          go_wp2_with fail
          refine (balances_any A B n c m d X Y T t u ts _ (hS.bel (((Bel.refl w).alloc _).trans hb1)) (hT.bel (((Bel.refl w).alloc _).trans hb1)) Ht.out htu hmax).mono ?_
          rintro e w3 ⟨rfl, hb3⟩
          rw [HV.out, HZ.out]
          go_wp2_with fail
          refine (min_any T t u ts _ (hT.bel (((Bel.refl w).alloc _).trans (hb1.trans hb3))) Ht.out h1t htm).mono ?_
          rintro e w4 ⟨rfl, rfl⟩
          rw [← HMI.out]
          go_wp2
          go_ret
          exact ⟨ret_int HF.out.symm, ((Bel.refl w).alloc _).trans (hb1.trans hb3)⟩
        · have hp2 : 0 < mi := by omega
          have HF := Lib.hid (show errR X Y ts ks = 0 by rw [hf, hpm, hbal, decide_eq_true hp2]; rfl)
          clear he hb hz ht hk hs hf hV hpm hmi hts hbal hp
          go_enter Try.func104, Try.ntmps104
          go_wp2_with fail
          refine (validateTimes_any A B n c m d X Y _ t u ts _ (hS.bel (by (repeat (first | exact Bel.refl _ | assumption | refine Bel.drew ?_ | refine Bel.drewN ?_ _ | refine Bel.alloc ?_ _ | refine Bel.setCell ?_ (by first | omega | (simp; done) | (simp; omega) | (simp at *; omega)) _ | refine Bel.trans ?_ (by assumption))))) (hT.bel (by (repeat (first | exact Bel.refl _ | assumption | refine Bel.drew ?_ | refine Bel.drewN ?_ _ | refine Bel.alloc ?_ _ | refine Bel.setCell ?_ (by first | omega | (simp; done) | (simp; omega) | (simp at *; omega)) _ | refine Bel.trans ?_ (by assumption))))) Ht.out htm).mono ?_
          rintro e w1 ⟨rfl, hb1⟩
          rw [HZ.out]
          obtain ⟨q0, q1⟩ := Held.out _ hb1
          go_wp2_with fail
          refine (areWithin_any K k v ks (n : Int) 0 1000 _ (hK.bel (((Bel.refl w).alloc _).trans hb1)) Hk.out hkm).mono ?_
          rintro e w2 ⟨rfl, rfl⟩
          rw [← HNM.out, HST.out]
          go_wp2_with fail
          refine (balances_any A B n c m d X Y T t u ts _ (hS.bel (((Bel.refl w).alloc _).trans hb1)) (hT.bel (((Bel.refl w).alloc _).trans hb1)) Ht.out htu hmax).mono ?_
          rintro e w3 ⟨rfl, hb3⟩
          rw [HV.out, HZ.out]
          go_wp2_with fail
          refine (min_any T t u ts _ (hT.bel (((Bel.refl w).alloc _).trans (hb1.trans hb3))) Ht.out h1t htm).mono ?_
          rintro e w4 ⟨rfl, rfl⟩
          rw [← HMI.out]
          go_wp2
          go_ret
          exact ⟨ret_int HF.out.symm, ((Bel.refl w).alloc _).trans (hb1.trans hb3)⟩
  · have HZ := Lib.hid hz
    have HF := Lib.hid (errR_bad (ks := ks) hz)
    clear hz ht hk
    go_enter Try.func104, Try.ntmps104
    go_wp2_with fail
    refine (validateTimes_any A B n c m d X Y _ t u ts _ (hS.bel (by (repeat (first | exact Bel.refl _ | assumption | refine Bel.drew ?_ | refine Bel.drewN ?_ _ | refine Bel.alloc ?_ _ | refine Bel.setCell ?_ (by first | omega | (simp; done) | (simp; omega) | (simp at *; omega)) _ | refine Bel.trans ?_ (by assumption))))) (hT.bel (by (repeat (first | exact Bel.refl _ | assumption | refine Bel.drew ?_ | refine Bel.drewN ?_ _ | refine Bel.alloc ?_ _ | refine Bel.setCell ?_ (by first | omega | (simp; done) | (simp; omega) | (simp at *; omega)) _ | refine Bel.trans ?_ (by assumption))))) Ht.out htm).mono ?_
    rintro e w1 ⟨rfl, hb1⟩
    rw [HZ.out]
    go_wp2
    go_ret
    exact ⟨ret_int HF.out.symm, by (repeat (first | exact Bel.refl _ | assumption | refine Bel.drew ?_ | refine Bel.drewN ?_ _ | refine Bel.alloc ?_ _ | refine Bel.setCell ?_ (by first | omega | (simp; done) | (simp; omega) | (simp at *; omega)) _ | refine Bel.trans ?_ (by assumption)))⟩
end Go.Proofs.Ytfjegdejfccgaaa
