/- The document's Validate, walked. -/
import Derived.Test.YtfjegdejfccgaaaL
namespace Go.Proofs.Ytfjegdejfccgaaa
open Go.RowKit

theorem lit0 (w : World) (g base : Nat) (hg : g = w.heap.size) (hb : base ≤ g) : (w.alloc (.cells #[] 28)).ownsRow base 28 1 (.slice (some ⟨g, 0, none⟩) 0 0) 0 [] := by
  subst hg
  exact World.ownsRow_lit w #[] 0 hb (by unfold maxLen; omega) rfl
theorem row_bad {E : Nat} {r : List Int} (h : r.length ≠ E) : okRowB E r = false := by
  unfold okRowB listB
  have : ((r.length : Int) == (E : Int)) = false := by simpa using (show ¬ (r.length : Int) = (E : Int) by omega)
  rw [this, Bool.and_false]; rfl
theorem row_out {E : Nat} {r : List Int} {v : Int} (hv : v ∈ r) (h : inB 0 9 v = false) : okRowB E r = false := by
  unfold okRowB; rw [listB_out hv h]; rfl
theorem row_end {E : Nat} {r : List Int} (hl : r.length = E) (h : ∀ (j : Nat) (v : Int), r[j]? = some v → inB 0 9 v = true) : okRowB E r = !(sumI r == 0) := by
  unfold okRowB
  rw [listB_in h, hl]
  have hz := sumI_zero (l := r) fun a ha => by
    obtain ⟨j, hj⟩ := List.mem_iff_getElem?.1 ha
    exact inB_yes (h j a hj)
  have e : (maxI r == 0) = (sumI r == 0) := by rw [Bool.eq_iff_iff]; simpa using hz
  rw [e]
  simp
set_option maxRecDepth 100000 in
set_option maxHeartbeats 2000000 in
theorem rValidate_any (A B : Option Addr) (n c m d : Nat) (X Y : List (List Int)) (w : World) (hS : Strk w A n B m X Y) :
    Calls Try.prog 40 #[.agg #[.slice A n c, .slice B m d]] w fun e w' => e = .returned (.int .i64 (errS X Y)) ∧ Bel w w' := by
  have HSX := Lib.hid hS.lx
  have HSY := Lib.hid hS.ly
  have HWN := Lib.hid (show inB 1 3 (n : Int) = sideB n by unfold inB sideB; congr 1; rw [eq_iff_iff]; omega)
  have HWM := Lib.hid (show inB 1 3 (m : Int) = sideB m by unfold inB sideB; congr 1; rw [eq_iff_iff]; omega)
  cases hx : sideB n with
  | false =>
    have HX := Lib.hid hx
    have HF := Lib.hid (errS_x (X := X) (Y := Y) (by rw [HSX.out]; exact hx))
    clear hx
    go_enter Try.func40, Try.ntmps40
    go_wp2_with fail
    refine (within_any _ _ _ _).mono ?_
    rintro e w1 ⟨rfl, rfl⟩
    rw [HWN.out, HX.out]
    go_wp2
    go_ret
    exact ⟨ret_int HF.out.symm, by (repeat (first | exact Bel.refl _ | assumption | refine Bel.drew ?_ | refine Bel.drewN ?_ _ | refine Bel.alloc ?_ _ | refine Bel.setCell ?_ (by first | omega | (simp; done) | (simp; omega) | (simp at *; omega)) _ | refine Bel.trans ?_ (by assumption)))⟩
  | true =>
    cases hy : sideB m with
    | false =>
      have HX := Lib.hid hx
      have HY := Lib.hid hy
      have HF := Lib.hid (errS_y (X := X) (Y := Y) (by rw [HSY.out]; exact hy))
      clear hx hy
      go_enter Try.func40, Try.ntmps40
      go_wp2_with fail
      refine (within_any _ _ _ _).mono ?_
      rintro e w1 ⟨rfl, rfl⟩
      rw [HWN.out, HX.out]
      go_wp2_with fail
      refine (within_any _ _ _ _).mono ?_
      rintro e w1 ⟨rfl, rfl⟩
      rw [HWM.out, HY.out]
      go_wp2
      go_ret
      exact ⟨ret_int HF.out.symm, by (repeat (first | exact Bel.refl _ | assumption | refine Bel.drew ?_ | refine Bel.drewN ?_ _ | refine Bel.alloc ?_ _ | refine Bel.setCell ?_ (by first | omega | (simp; done) | (simp; omega) | (simp at *; omega)) _ | refine Bel.trans ?_ (by assumption)))⟩
    | true =>
      obtain ⟨i0, hi, hz0, hz1, hz2⟩ := info_parts info1T
      have HX := Lib.hid hx
      have HY := Lib.hid hy
      have kx := of_decide_eq_true hx
      have ky := of_decide_eq_true hy
      have Held := Lib.hid (fun w' (h : Bel (w.alloc (.cells #[.slice A n c, .slice B m d] 24)) w') => box_sl h)
      obtain ⟨n1, n3⟩ := kx
      obtain ⟨m1, m3⟩ := ky
      have HFE := Lib.hid (fun (h : inB 1 4 (elN X : Int) = false) => errS_e (X := X) (Y := Y) h)
      have HFR := Lib.hid (fun (r : List Int) (hr : r ∈ X ++ Y) (h : okRowB (elN X) r = false) => errS_r hr h)
      have HFO := Lib.hid (fun h3 h4 => errS_ok (X := X) (Y := Y) (by rw [HSX.out]; exact hx) (by rw [HSY.out]; exact hy) h3 h4)
      obtain ⟨b, o, ns, A', n', c', rfl, hbl, hg, hcell, hI, hl, hmm⟩ := hS.tx.at_ (k := 0) (by rw [HSX.out]; omega)
      have hEl : elN X = n' := by rw [elN_at hg, hl]
      rw [hEl] at HFE HFR HFO
      clear hEl
      have hq : ∀ w', Bel w w' → w'.cell? ⟨b, o, none⟩ = some (.slice A' n' c') := fun w' h => by rw [h.use.1 _ _ hbl]; exact hcell
      have HQ := Lib.hid hq
      have q9 := hq _ ((Bel.refl w).alloc (.cells #[.slice (some ⟨b, o, none⟩) n c, .slice B m d] 24))
      have h0 : (0 : Int) < (n : Int) := by omega
      clear hx hy hg hl hcell hq hI
      go_enter Try.func40, Try.ntmps40
      go_wp2_with fail
      refine (within_any _ _ _ _).mono ?_
      rintro e w1 ⟨rfl, rfl⟩
      rw [HWN.out, HX.out]
      go_wp2_with fail
      refine (within_any _ _ _ _).mono ?_
      rintro e w1 ⟨rfl, rfl⟩
      rw [HWM.out, HY.out]
      go_wp2_with fail
      refine (within_any _ _ _ _).mono ?_
      rintro e w1 ⟨rfl, rfl⟩
      cases hE : inB 1 4 (n' : Int) with
      | false =>
        have HF := Lib.hid (HFE.out hE)
        clear hE
        go_wp2
        go_ret
        exact ⟨ret_int HF.out.symm, by (repeat (first | exact Bel.refl _ | assumption | refine Bel.drew ?_ | refine Bel.drewN ?_ _ | refine Bel.alloc ?_ _ | refine Bel.setCell ?_ (by first | omega | (simp; done) | (simp; omega) | (simp at *; omega)) _ | refine Bel.trans ?_ (by assumption)))⟩
      | true =>
        have hE14 := inB_yes hE
        obtain ⟨E1, E4⟩ := hE14
        have HE := Lib.hid hE
        obtain ⟨ab, ao, vs, hA, hal, hav, hVX⟩ := hS.tx.vals (by intro e; have := HSX.out; rw [e] at this; simp at this; omega)
        injection hA with hA
        injection hA with e1 e2
        subst e1 e2
        obtain ⟨bb, bo, us, rfl, hbl2, hbv, hVY⟩ := hS.ty.vals (by intro e; have := HSY.out; rw [e] at this; simp at this; omega)
        have HVX := Lib.hid hVX; have HVY := Lib.hid hVY
        have HAV : Hid (∀ w', Bel w w' → ∀ j u, vs[j]? = some u → w'.cell? ((⟨b, o, none⟩ : Addr).add j) = some u) := by
          intro w' h j u hj
          have := hav j u hj
          rw [Go.Addr.add_mid] at this ⊢
          rw [h.use.1 _ _ hal]
          exact this
        have HBV : Hid (∀ w', Bel w w' → ∀ j u, us[j]? = some u → w'.cell? ((⟨bb, bo, none⟩ : Addr).add j) = some u) := by
          intro w' h j u hj
          have := hbv j u hj
          rw [Go.Addr.add_mid] at this ⊢
          rw [h.use.1 _ _ hbl2]
          exact this
        have hX1 := Lib.hid (show 0 + n ≤ maxLen by unfold maxLen; omega)
        have hX2 := Lib.hid (show (0 + n) * 24 ≤ 140737488355328 by omega)
        have hX3 := Lib.hid (show 0 + n + m ≤ maxLen by unfold maxLen; omega)
        have hX4 := Lib.hid (show (0 + n + m) * 24 ≤ 140737488355328 by omega)
        clear hE hav hbv hVX hVY
        go_wp2
        obtain ⟨W0, hW0⟩ : ∃ W0, W0 = w.alloc (.cells #[.slice (some ⟨b, o, none⟩) n c, .slice (some ⟨bb, bo, none⟩) m d] 24) := ⟨_, rfl⟩
        have hsz0 : W0.heap.size = w.heap.size + 1 := by rw [hW0]; simp
        have hbW : Bel w W0 := by rw [hW0]; (repeat (first | exact Bel.refl _ | assumption | refine Bel.drew ?_ | refine Bel.drewN ?_ _ | refine Bel.alloc ?_ _ | refine Bel.setCell ?_ (by first | omega | (simp; done) | (simp; omega) | (simp at *; omega)) _ | refine Bel.trans ?_ (by assumption)))
        rw [← hW0] at Held ⊢
        have HSZ := Lib.hid hsz0
        have q01 := Held.out _ (Bel.refl _)
        obtain ⟨q0, q1⟩ := q01
        have hf0 : Hid (∀ w', Bel W0 w' → w.heap.size + 1 ≤ w'.heap.size) := fun w' h => by have := h.size; omega
        clear hW0 hsz0 q9
        go_region_held_law (fun w' => Bel W0 w' ∧ (w'.cell? ⟨w.heap.size, 0, none⟩ = some (.slice (some ⟨b, o, none⟩) n c) ∧ w'.cell? ⟨w.heap.size, 1, none⟩ = some (.slice (some ⟨bb, bo, none⟩) m d))) (exact ⟨by (repeat (first | exact Bel.refl _ | assumption | refine Bel.drew ?_ | refine Bel.drewN ?_ _ | refine Bel.alloc ?_ _ | refine Bel.setCell ?_ (by first | omega | (simp; done) | (simp; omega) | (simp at *; omega)) _ | refine Bel.trans ?_ (by assumption))), Held.out _ (by (repeat (first | exact Bel.refl _ | assumption | refine Bel.drew ?_ | refine Bel.drewN ?_ _ | refine Bel.alloc ?_ _ | refine Bel.setCell ?_ (by first | omega | (simp; done) | (simp; omega) | (simp at *; omega)) _ | refine Bel.trans ?_ (by assumption))))⟩)
          (first | (refine step_append_lies _ rfl (.tmp 28) (.tmp 30) 22 rfl W0.heap.size 28 i0 _ 1 24 Try.underlying22 hi hz0 hz1 hz2 rfl (by decide) _ 0 [] (by rfl) (lit0 _ _ _ rfl (Nat.le_refl _)) ⟨b, o, none⟩ n c vs (by rfl) (by rw [HVX.out.len, HSX.out, Nat.mul_one]) (HAV.out _ (by (repeat (first | exact Bel.refl _ | assumption | refine Bel.drew ?_ | refine Bel.drewN ?_ _ | refine Bel.alloc ?_ _ | refine Bel.setCell ?_ (by first | omega | (simp; done) | (simp; omega) | (simp at *; omega)) _ | refine Bel.trans ?_ (by assumption))))) HVX.out.one (by omega) hX1.out hX2.out (by simp) _ rfl ?_; intro g3 cap3 w3 hown3 hgr3 hat3 hlt3; have hB3 := grown_own (w := W0) (by (repeat (first | exact Bel.refl _ | assumption | refine Bel.drew ?_ | refine Bel.drewN ?_ _ | refine Bel.alloc ?_ _ | refine Bel.setCell ?_ (by first | omega | (simp; done) | (simp; omega) | (simp at *; omega)) _ | refine Bel.trans ?_ (by assumption)))) (lit0 _ _ _ rfl (Nat.le_refl _)) (Bel.refl W0).size hgr3) | (refine step_append_lies _ rfl (.tmp 31) (.tmp 33) 22 rfl W0.heap.size 28 i0 _ 1 24 Try.underlying22 hi hz0 hz1 hz2 rfl (by decide) _ (0 + n) ([] ++ vs) (by rfl) (ownsRow_bel hown3 (by (repeat (first | exact Bel.refl _ | assumption | refine Bel.drew ?_ | refine Bel.drewN ?_ _ | refine Bel.alloc ?_ _ | refine Bel.setCell ?_ (by first | omega | (simp; done) | (simp; omega) | (simp at *; omega)) _ | refine Bel.trans ?_ (by assumption))))) ⟨bb, bo, none⟩ m d us (by rfl) (by rw [HVY.out.len, HSY.out, Nat.mul_one]) (HBV.out _ (by (repeat (first | exact Bel.refl _ | assumption | refine Bel.drew ?_ | refine Bel.drewN ?_ _ | refine Bel.alloc ?_ _ | refine Bel.setCell ?_ (by first | omega | (simp; done) | (simp; omega) | (simp at *; omega)) _ | refine Bel.trans ?_ (by assumption))))) HVY.out.one (by omega) hX3.out hX4.out hB3.size _ rfl ?_; intro g4 cap4 w4 hown4 hgr4 hat4 hlt4; have hB4 := grown_own (w := W0) hB3 hown3 (Nat.le_refl _) hgr4))
        have hTab := Tab.of_own (w := w) (vs := [] ++ vs ++ us) (T := X ++ Y) hown4 (hbW.trans hB4) (by rw [List.nil_append]; exact HVX.out.append HVY.out)
        have hw4 : Bel w w4 := hbW.trans hB4
        have q23 := Held.out _ hB4
        obtain ⟨q2, q3⟩ := q23
        have q4 := HQ.out _ hw4
        have HN := Lib.hid (show n + m = (X ++ Y).length by rw [List.length_append, HSX.out, HSY.out])
        have hn3i : (n : Int) ≤ 3 := by omega
        have hm3i : (m : Int) ≤ 3 := by omega
        clear hown4 hgr4 hat4 hlt4 hgr3 hat3 hlt3 hown3 hB3 q0 q1
        go_wp2
        go_loopw [4] (fun i wr => ∃ k : Nat, k ≤ n + m ∧ i = .int .i64 k ∧ Bel w4 wr ∧ ∀ (j : Nat) (r : List Int), j < k → (X ++ Y)[j]? = some r → okRowB n' r = true) (fun i _ => n + m - (intOf i).toNat)
        case atStart => exact ⟨0, Nat.zero_le _, rfl, by (repeat (first | exact Bel.refl _ | assumption | refine Bel.drew ?_ | refine Bel.drewN ?_ _ | refine Bel.alloc ?_ _ | refine Bel.setCell ?_ (by first | omega | (simp; done) | (simp; omega) | (simp at *; omega)) _ | refine Bel.trans ?_ (by assumption))), fun j u hj => by omega⟩
        case round =>
          obtain ⟨k, hk, rfl, hbr, hb⟩ := hrel
          have HB := Lib.hid hb
          have q45 := Held.out _ (hB4.trans hbr)
          obtain ⟨q5, q6⟩ := q45
          have q7 := HQ.out _ (hw4.trans hbr)
          clear hb q2 q3 q4
          by_cases hlt : k < n + m
          · have hkN : (k : Int) < (n : Int) + (m : Int) := by omega
            obtain ⟨b3, o3, r, A3, n3', c3, hA3, hbl3, hg, hcell, hI, hl, hmm3⟩ := hTab.at_ (k := k) (by rw [← HN.out]; exact hlt)
            injection hA3 with hA3
            injection hA3 with e1 e2
            subst e1 e2
            rw [Nat.zero_add] at hcell
            have HCE := Lib.hid (fun w' (h : Bel w4 w') => show w'.cell? ⟨g4, k, none⟩ = some (.slice A3 n3' c3) from by rw [h.use.1 _ _ hbl3]; exact hcell)
            clear hcell
            have hcell := HCE.out _ hbr
            have HG := Lib.hid hg
            have HL := Lib.hid hl
            clear hg hl
            by_cases hln : n3' = n'
            · subst hln
              have hne1 : ((n3' : Int) != (n3' : Int)) = false := by simp
              have hne2 : (n3' != n3') = false := by simp
              go_wp2
              go_quiet (fail)
              go_wp2
              obtain ⟨wo, hwo⟩ : ∃ wo : World, wo = wr := ⟨_, rfl⟩
              subst hwo
              go_loopw [5, 6] (fun s i wr => ∃ q : Nat, q ≤ n3' ∧ i = .int .i64 q ∧ s = .int .i64 (sumI (r.take q)) ∧ Bel w4 wr ∧ ∀ (j : Nat) (v : Int), j < q → r[j]? = some v → inB 0 9 v = true) (fun _ i _ => n3' - (intOf i).toNat)
              case atStart => exact ⟨0, Nat.zero_le _, rfl, rfl, by (repeat (first | exact Bel.refl _ | assumption | refine Bel.drew ?_ | refine Bel.drewN ?_ _ | refine Bel.alloc ?_ _ | refine Bel.setCell ?_ (by first | omega | (simp; done) | (simp; omega) | (simp at *; omega)) _ | refine Bel.trans ?_ (by assumption))), fun j u hj => by omega⟩
              case round =>
                obtain ⟨q, hq, rfl, rfl, hbr2, hb⟩ := hrel
                have HBI := Lib.hid hb
                clear hb hcell q5 q6 q7
                have hcell := HCE.out _ hbr2
                by_cases hql : q < n3'
                · have hqn : (q : Int) < (n3' : Int) := by omega
                  obtain ⟨b5, o5, x, rfl, hb5, hg5, hc5⟩ := (hI.bel hbr2).at_ (k := q) (by rw [HL.out]; exact hql)
                  have HS := Lib.hid (show sumI (r.take (q + 1)) = sumI (r.take q) + x by rw [take_at hg5, sumI_snoc])
                  have hsb := sumI_bd (l := r.take q) (fun a ha => by
                    obtain ⟨j, hj⟩ := List.mem_iff_getElem?.1 ha
                    rw [List.getElem?_take] at hj
                    split at hj
                    · exact inB_yes (HBI.out j a (by assumption) hj)
                    · cases hj)
                  have hsl : (r.take q).length ≤ q := List.length_take_le _ _
                  obtain ⟨s0, s1⟩ := hsb
                  have s2 : sumI (r.take q) ≤ 36 := by omega
                  have HG5 := Lib.hid hg5
                  obtain ⟨u, hu⟩ : ∃ u, u = sumI (r.take q) := ⟨_, rfl⟩
                  rw [← hu] at s0 s2 ⊢
                  have HU := Lib.hid hu
                  clear hg5 s1 hsl hu
                  cases hxb : inB 0 9 x with
                  | false =>
                    have HXB := Lib.hid hxb
                    have HF := Lib.hid (HFR.out r (List.mem_of_getElem? HG.out) (row_out (List.mem_of_getElem? HG5.out) hxb))
                    clear hxb
                    go_wp2_with fail
                    refine (within_any x 0 9 _).mono ?_
                    rintro e w' ⟨rfl, rfl⟩
                    rw [HXB.out]
                    go_wp2
                    go_ret
                    exact ⟨ret_int HF.out.symm, by (repeat (first | exact Bel.refl _ | assumption | refine Bel.drew ?_ | refine Bel.drewN ?_ _ | refine Bel.alloc ?_ _ | refine Bel.setCell ?_ (by first | omega | (simp; done) | (simp; omega) | (simp at *; omega)) _ | refine Bel.trans ?_ (by assumption)))⟩
                  | true =>
                    have HXB := Lib.hid hxb
                    obtain ⟨x0, x9⟩ := inB_yes hxb
                    clear hxb
                    go_wp2_with fail
                    refine (within_any x 0 9 _).mono ?_
                    rintro e w' ⟨rfl, rfl⟩
                    rw [HXB.out]
                    go_wp2
                    go_roundw
                    case rel => exact ⟨q + 1, by omega, by go_num, by rw [HS.out, HU.out], hbr2, fun j v hj hv => by
                      rcases (by omega : j < q ∨ j = q) with h | rfl
                      · exact HBI.out j v h hv
                      · rw [HG5.out] at hv; injection hv with hv; rw [← hv]; exact HXB.out⟩
                    case measure => simp [intOf]; omega
                · obtain rfl : q = n3' := by omega
                  have HT := Lib.hid (show r.take q = r from List.take_of_length_le (by rw [HL.out]; omega))
                  rw [HT.out]
                  have HR := Lib.hid (row_end (E := q) HL.out (fun j v hv => HBI.out j v (by rw [← HL.out]; exact (List.getElem?_eq_some_iff.1 hv).1) hv))
                  obtain ⟨u, hu⟩ : ∃ u, u = sumI r := ⟨_, rfl⟩
                  rw [← hu] at HR ⊢
                  by_cases hz : u = 0
                  · subst hz
                    have HF := Lib.hid (HFR.out r (List.mem_of_getElem? HG.out) (by rw [HR.out]; rfl))
                    clear hu
                    go_wp2
                    go_ret
                    exact ⟨ret_int HF.out.symm, by (repeat (first | exact Bel.refl _ | assumption | refine Bel.drew ?_ | refine Bel.drewN ?_ _ | refine Bel.alloc ?_ _ | refine Bel.setCell ?_ (by first | omega | (simp; done) | (simp; omega) | (simp at *; omega)) _ | refine Bel.trans ?_ (by assumption)))⟩
                  · have huz : (u == 0) = false := by simpa using hz
                    have HO := Lib.hid (show okRowB q r = true by rw [HR.out, huz]; rfl)
                    clear hu hz
                    go_wp2
                    go_roundw
                    case rel => exact ⟨k + 1, by omega, by go_num, hbr2, fun j v hj hv => by
                      rcases (by omega : j < k ∨ j = k) with h | rfl
                      · exact HB.out j v h hv
                      · rw [HG.out] at hv; injection hv with hv; rw [← hv]; exact HO.out⟩
                    case measure => simp [intOf]; omega
            · have hlni : ((n3' : Int) != (n' : Int)) = true := by simpa using (show ¬ (n3' : Int) = (n' : Int) by omega)
              have hlni2 : (n3' != n') = true := by simpa using hln
              have HF := Lib.hid (HFR.out r (List.mem_of_getElem? HG.out) (row_bad (by rw [HL.out]; exact hln)))
              clear hln
              go_wp2
              go_quiet (fail)
              go_wp2
              go_ret
              exact ⟨ret_int HF.out.symm, by (repeat (first | exact Bel.refl _ | assumption | refine Bel.drew ?_ | refine Bel.drewN ?_ _ | refine Bel.alloc ?_ _ | refine Bel.setCell ?_ (by first | omega | (simp; done) | (simp; omega) | (simp at *; omega)) _ | refine Bel.trans ?_ (by assumption)))⟩
          · obtain rfl : k = n + m := by omega
            have HF := Lib.hid (HFO.out HE.out (fun j r hj => HB.out j r (by rw [HN.out]; exact (List.getElem?_eq_some_iff.1 hj).1) hj))
            go_wp2
            go_ret
            exact ⟨ret_int HF.out.symm, by (repeat (first | exact Bel.refl _ | assumption | refine Bel.drew ?_ | refine Bel.drewN ?_ _ | refine Bel.alloc ?_ _ | refine Bel.setCell ?_ (by first | omega | (simp; done) | (simp; omega) | (simp at *; omega)) _ | refine Bel.trans ?_ (by assumption)))⟩
end Go.Proofs.Ytfjegdejfccgaaa
