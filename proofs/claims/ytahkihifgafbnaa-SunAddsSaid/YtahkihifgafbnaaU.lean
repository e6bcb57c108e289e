/- Which tables are right, by the document. -/
import Derived.Test.YtahkihifgafbnaaR
namespace Go.Proofs.Ytahkihifgafbnaa
open Go.RowKit

attribute [local go_sem] Oper.semAt_some

def inB (lo hi v : Int) : Bool := decide (lo ≤ v) && decide (v ≤ hi)
theorem within_yes (v lo hi : Int) (w : World) (h : lo ≤ v ∧ v ≤ hi) : Calls Try.prog 83 #[.int .i64 v, .int .i64 lo, .int .i64 hi] w fun e w' => e = .returned (.bool true) ∧ w = w' := by
  obtain ⟨h1, h2⟩ := h
  go_enter Try.func83, Try.ntmps83
  go_wp2
  go_ret
  exact ⟨by simp, rfl⟩
theorem within_no (v lo hi : Int) (w : World) (h : ¬ (lo ≤ v ∧ v ≤ hi)) : Calls Try.prog 83 #[.int .i64 v, .int .i64 lo, .int .i64 hi] w fun e w' => e = .returned (.bool false) ∧ w = w' := by
  by_cases h1 : lo ≤ v
  · have h2 : hi < v := by omega
    go_enter Try.func83, Try.ntmps83
    go_wp2
    go_ret
    exact ⟨by first | rfl | (simp; omega), rfl⟩
  · have h2 : v < lo := by omega
    go_enter Try.func83, Try.ntmps83
    go_wp2
    go_ret
    exact ⟨by first | rfl | (simp; omega), rfl⟩
/-- What the document asks of the entry of two strips. -/
def GoodAt (T : List (List Int)) (i k : Nat) : Prop := (0 ≤ ent T i k ∧ ent T i k ≤ 1) ∧ (i = k → ent T i k = 0) ∧ (i ≠ k → IntKind.i64.wrap (ent T i k + ent T k i) = 1)
theorem good_all {T : List (List Int)} {n : Nat} (hs : Square T n) (h1 : 1 ≤ n) (h7 : n ≤ 7) (h : ∀ i k, i < n → k < n → GoodAt T i k) : errT T = 0 := by
  have hl := hs.1
  rw [errT_of (by rw [hl]; exact ⟨h1, h7⟩) rfl, hl]
  have hr : rowsB T n = true := by
    unfold rowsB
    rw [List.all_eq_true]
    intro r hr
    obtain ⟨i, hi⟩ := List.getElem?_of_mem hr
    have hin : i < n := by rw [← hl]; exact (List.getElem?_eq_some_iff.1 hi).1
    simp only [rowB, Bool.and_eq_true, decide_eq_true_eq]
    refine ⟨?_, hs.2 r hr⟩
    rw [List.all_eq_true]
    intro x hx
    obtain ⟨k, hk⟩ := List.getElem?_of_mem hx
    have hkn : k < n := by rw [← hs.2 r hr]; exact (List.getElem?_eq_some_iff.1 hk).1
    have he : ent T i k = x := by unfold ent; rw [hi]; simp [hk]
    have := (h i k hin hkn).1
    rw [he] at this
    simp only [Bool.or_eq_true, decide_eq_true_eq]
    omega
  have hd : diagB T n = true := by
    unfold diagB
    rw [List.all_eq_true]
    intro a ha
    have han := List.mem_range.1 ha
    simp only [Bool.and_eq_true, decide_eq_true_eq]
    refine ⟨(h a a han han).2.1 rfl, ?_⟩
    unfold pairsB
    rw [List.all_eq_true]
    intro b hb
    have hba := List.mem_range.1 hb
    have g1 := h a b han (by omega)
    have g2 := (h b a (by omega) han).1
    have g3 := g1.2.2 (by omega)
    have g0 := g1.1
    rw [IntWalk.i64_in _ (by omega)] at g3
    simp only [Bool.not_eq_true', decide_eq_false_iff_not]
    omega
  rw [hr, hd]
  rfl
theorem bad_one {T : List (List Int)} {n i k : Nat} (hs : Square T n) (h1 : 1 ≤ n) (h7 : n ≤ 7) (hi : i < n) (hk : k < n) (h : ¬ GoodAt T i k) : errT T = 1 := by
  have hl := hs.1
  cases hb : (rowsB T n && diagB T n) with
  | false => rw [errT_of (by rw [hl]; exact ⟨h1, h7⟩) (b := false) (by rw [hl]; exact hb)]; rfl
  | true =>
    exfalso
    simp only [Bool.and_eq_true] at hb
    obtain ⟨hr, hd⟩ := hb
    have h01 : ∀ a b, a < n → b < n → ent T a b = 0 ∨ ent T a b = 1 := by
      intro a b ha hb
      obtain ⟨r, e1, e2, e3⟩ := hs.at_ ha hb
      have := List.all_eq_true.1 hr r (List.mem_of_getElem? e1)
      simp only [rowB, Bool.and_eq_true] at this
      have := List.all_eq_true.1 this.1 _ (List.mem_of_getElem? e3)
      simpa using this
    have hdd : ∀ a, a < n → ent T a a = 0 ∧ pairsB T a a = true := by
      intro a ha
      have := List.all_eq_true.1 hd a (List.mem_range.2 ha)
      simpa using this
    have hpp : ∀ a b, a < n → b < a → ent T a b ≠ ent T b a := by
      intro a b ha hb
      have := List.all_eq_true.1 (hdd a ha).2 b (List.mem_range.2 hb)
      simpa using this
    have u1 := h01 i k hi hk
    have u2 := h01 k i hk hi
    refine h ⟨by omega, fun e => by subst e; exact (hdd i hi).1, fun hne => ?_⟩
    rw [IntWalk.i64_in _ (by omega)]
    rcases (by omega : i < k ∨ k < i) with q | q
    · have := hpp k i hk q
      omega
    · have := hpp i k hi q
      omega
theorem not_square {T : List (List Int)} {n k : Nat} {r : List Int} (hl : T.length = n) (h1 : 1 ≤ n) (h7 : n ≤ 7) (hg : T[k]? = some r) (hr : r.length ≠ n) : errT T = 1 := by
  rw [errT_of (by rw [hl]; exact ⟨h1, h7⟩) (b := false) (by
    rw [hl, rowsB_no hg (by simp [rowB, hr])]
    rfl)]
  rfl
set_option maxRecDepth 100000 in
set_option maxHeartbeats 4000000 in
theorem rvalidate_any (lo : Nat) (A : Option Addr) (n c : Nat) (T : List (List Int)) (w : World) (hR : Tab lo w A T) (hn : T.length = n) :
    Calls Try.prog 42 #[.slice A n c] w fun e w' => e = .returned (.int .i64 (errT T)) ∧ Bel w w' := by
  by_cases hw : 1 ≤ (n : Int) ∧ (n : Int) ≤ 7
  · have HW := Lib.hid hw
    have h1 : 1 ≤ n := by omega
    have h7 : n ≤ 7 := by omega
    have Hn := Lib.hid hn
    clear hn
    go_enter Try.func42, Try.ntmps42
    go_wp2_with fail
    refine (within_yes _ _ _ _ HW.out).mono ?_
    rintro e w' ⟨rfl, rfl⟩
    go_wp2
    go_loop [4] (fun i => ∃ k : Nat, k ≤ n ∧ i = .int .i64 k ∧ ∀ j r, j < k → T[j]? = some r → r.length = n) (fun i => n - (intOf i).toNat)
    case atStart => exact ⟨0, Nat.zero_le _, rfl, fun j r hj => by omega⟩
    case round =>
      obtain ⟨k, hk, rfl, hall⟩ := hrel
      have HA := Lib.hid hall
      clear hall
      by_cases hlt : k < n
      · obtain ⟨b, o, ns, A', n', c', rfl, hbl, hg, hcell, hI, hl, hmm⟩ := hR.at_ (k := k) (by rw [Hn.out]; exact hlt)
        have HG := Lib.hid hg; have HL := Lib.hid hl
        have hkn : (k : Int) < (n : Int) := by omega
        clear hg hl hI
        by_cases hnn : n' = n
        · have HN := Lib.hid hnn
          have i3 : (n' : Int) = (n : Int) := by omega
          clear hnn
          go_wp2
          go_round
          case rel => exact ⟨k + 1, by omega, by go_num, fun j r hj hr => by
            rcases (by omega : j < k ∨ j = k) with h | rfl
            · exact HA.out j r h hr
            · rw [HG.out] at hr; injection hr with hr; rw [← hr, HL.out, HN.out]⟩
          case measure => simp [intOf]; omega
        · have HN := Lib.hid (not_square (T := T) Hn.out h1 h7 HG.out (by rw [HL.out]; exact hnn))
          have i3 : ¬ (n' : Int) = (n : Int) := by omega
          clear hnn
          go_wp2
          go_ret
          exact ⟨by rw [HN.out]; rfl, Bel.refl _⟩
      · obtain rfl : n = k := by omega
        have hsq : Square T n := ⟨Hn.out, fun r hr => by
          obtain ⟨j, hj⟩ := List.getElem?_of_mem hr
          exact HA.out j r (by rw [← Hn.out]; exact (List.getElem?_eq_some_iff.1 hj).1) hj⟩
        have hN := hR.toN hsq h1
        have HSQ := Lib.hid hsq
        clear hsq
        obtain ⟨b, o, hA, hbs, hc⟩ := hN
        subst hA
        have HC := Lib.hid hc
        clear hc
        go_wp2
        go_loopw [5] (fun i wr => ∃ p : Nat, p ≤ n ∧ i = .int .i64 p ∧ Bel w wr ∧ ∀ a b, a < p → b < n → GoodAt T a b) (fun i _ => n - (intOf i).toNat)
        case atStart => exact ⟨0, Nat.zero_le _, rfl, Bel.refl _, fun a b ha _ => by omega⟩
        case round =>
          obtain ⟨p, hp, rfl, hbo, hgo⟩ := hrel
          have HGO := Lib.hid hgo
          clear hgo
          by_cases hpn : p < n
          · have hpi : (p : Int) < (n : Int) := by omega
            go_wp2
            go_loopw [6] (fun i wr => ∃ k : Nat, k ≤ n ∧ i = .int .i64 k ∧ Bel w wr ∧ ∀ b, b < k → GoodAt T p b) (fun i _ => n - (intOf i).toNat)
            case atStart => exact ⟨0, Nat.zero_le _, rfl, hbo, fun b hb => by omega⟩
            case round =>
            obtain ⟨k, hk, rfl, hb, hak⟩ := hrel
            have HAK := Lib.hid hak
            clear hak
            by_cases hlt : k < n
            · have hki : (k : Int) < (n : Int) := by omega
              obtain ⟨r1, e1, e2, e3⟩ := HSQ.out.at_ hpn hlt
              obtain ⟨r2, f1, f2, f3⟩ := HSQ.out.at_ hlt hpn
              obtain ⟨b1, o1, n1, c1, x1, x2, x3, x4⟩ := HC.out p r1 e1
              obtain ⟨b2, o2, n2, c2, y1, y2, y3, y4⟩ := HC.out k r2 f1
              have d1 := (hb.use.1 b (o + p) hbs).trans x1
              have d2 := (hb.use.1 b1 (o1 + k) x3).trans (x4 k _ e3)
              have d3 := (hb.use.1 b (o + k) hbs).trans y1
              have d4 := (hb.use.1 b2 (o2 + p) y3).trans (y4 p _ f3)
              have i1 : (k : Int) < (n1 : Int) := by omega
              have i2 : (p : Int) < (n2 : Int) := by omega
              have HG : Hid (GoodAt T p k ↔ ((0 ≤ ent T p k ∧ ent T p k ≤ 1) ∧ (p = k → ent T p k = 0) ∧ (p ≠ k → IntKind.i64.wrap (ent T p k + ent T k p) = 1))) := Iff.rfl
              have HBAD : Hid (¬ GoodAt T p k → errT T = 1) := fun h => bad_one HSQ.out h1 h7 hpn hlt h
              clear e1 e2 e3 f1 f2 f3 x1 x2 x3 x4 y1 y2 y3 y4
              generalize ent T p k = v at *
              generalize ent T k p = u at *
              by_cases hw2 : 0 ≤ v ∧ v ≤ 1
              · have HW2 := Lib.hid hw2
                by_cases hpk : p = k
                · subst hpk
                  clear d3 d4 i2
                  by_cases hv : v = 0
                  · have HB := Lib.hid (HG.out.2 ⟨hw2, fun _ => hv, fun h => absurd rfl h⟩)
                    subst hv
                    clear hw2
                    go_wp2
                    go_quiet ((go_at_call 83; exact Calls.quiet_of_same ((within_yes _ _ _ _ HW2.out).mono fun _ _ h => ⟨h.1, h.2.symm⟩)))
                    go_wp2
                    go_roundw
                    case rel => exact ⟨p + 1, by omega, by go_num, by (repeat (first | exact Bel.refl _ | assumption | refine Bel.drew ?_ | refine Bel.drewN ?_ _ | refine Bel.alloc ?_ _ | refine Bel.setCell ?_ (by first | omega | (simp; done) | (simp; omega) | (simp at *; omega)) _ | refine Bel.trans ?_ (by assumption))), fun b hb => by
                      rcases (by omega : b < p ∨ b = p) with h | rfl
                      · exact HAK.out b h
                      · exact HB.out⟩
                    case measure => simp [intOf]; omega

                  · have HB := Lib.hid (HBAD.out fun h => hv ((HG.out.1 h).2.1 rfl))
                    have hb2 : (v != 0) = true := by simpa using hv
                    clear hv HG HBAD
                    clear hw2
                    go_wp2
                    go_quiet ((go_at_call 83; exact Calls.quiet_of_same ((within_yes _ _ _ _ HW2.out).mono fun _ _ h => ⟨h.1, h.2.symm⟩)))
                    go_wp2
                    go_ret
                    exact ⟨by rw [HB.out]; rfl, by (repeat (first | exact Bel.refl _ | assumption | refine Bel.drew ?_ | refine Bel.drewN ?_ _ | refine Bel.alloc ?_ _ | refine Bel.setCell ?_ (by first | omega | (simp; done) | (simp; omega) | (simp at *; omega)) _ | refine Bel.trans ?_ (by assumption)))⟩

                · have hpki : ¬ (p : Int) = (k : Int) := by omega
                  by_cases hx1 : IntKind.i64.wrap (v + u) = 1
                  · have HB := Lib.hid (HG.out.2 ⟨hw2, fun h => absurd h hpk, fun _ => hx1⟩)
                    clear hw2 hpk
                    go_wp2
                    go_quiet ((go_at_call 83; exact Calls.quiet_of_same ((within_yes _ _ _ _ HW2.out).mono fun _ _ h => ⟨h.1, h.2.symm⟩)))
                    go_wp2
                    go_roundw
                    case rel => exact ⟨k + 1, by omega, by go_num, by (repeat (first | exact Bel.refl _ | assumption | refine Bel.drew ?_ | refine Bel.drewN ?_ _ | refine Bel.alloc ?_ _ | refine Bel.setCell ?_ (by first | omega | (simp; done) | (simp; omega) | (simp at *; omega)) _ | refine Bel.trans ?_ (by assumption))), fun b hb => by
                      rcases (by omega : b < k ∨ b = k) with h | rfl
                      · exact HAK.out b h
                      · exact HB.out⟩
                    case measure => simp [intOf]; omega

                  · have HB := Lib.hid (HBAD.out fun h => hx1 ((HG.out.1 h).2.2 hpk))
                    have hb1 : ((p : Int) != (k : Int)) = true := by simpa using hpki
                    have hb2 : (IntKind.i64.wrap (v + u) != 1) = true := by simpa using hx1
                    clear hw2 hpk
                    go_wp2
                    go_quiet ((go_at_call 83; exact Calls.quiet_of_same ((within_yes _ _ _ _ HW2.out).mono fun _ _ h => ⟨h.1, h.2.symm⟩)))
                    go_wp2
                    go_ret
                    exact ⟨by rw [HB.out]; rfl, by (repeat (first | exact Bel.refl _ | assumption | refine Bel.drew ?_ | refine Bel.drewN ?_ _ | refine Bel.alloc ?_ _ | refine Bel.setCell ?_ (by first | omega | (simp; done) | (simp; omega) | (simp at *; omega)) _ | refine Bel.trans ?_ (by assumption)))⟩

              · have HW2 := Lib.hid hw2
                have HB := Lib.hid (HBAD.out fun h => hw2 (HG.out.1 h).1)
                clear hw2
                go_wp2
                go_quiet ((go_at_call 83; exact Calls.quiet_of_same ((within_no _ _ _ _ HW2.out).mono fun _ _ h => ⟨h.1, h.2.symm⟩)))
                go_wp2
                go_ret
                exact ⟨by rw [HB.out]; rfl, by (repeat (first | exact Bel.refl _ | assumption | refine Bel.drew ?_ | refine Bel.drewN ?_ _ | refine Bel.alloc ?_ _ | refine Bel.setCell ?_ (by first | omega | (simp; done) | (simp; omega) | (simp at *; omega)) _ | refine Bel.trans ?_ (by assumption)))⟩

            · obtain rfl : n = k := by omega
              go_wp2
              go_roundw
              case rel => exact ⟨p + 1, by omega, by go_num, hb, fun a b ha hb => by
                rcases (by omega : a < p ∨ a = p) with h | rfl
                · exact HGO.out a b h hb
                · exact HAK.out b hb⟩
              case measure => simp [intOf]; omega
          · obtain rfl : n = p := by omega
            have HB := Lib.hid (good_all HSQ.out h1 h7 fun i k hi hk => HGO.out i k hi hk)
            go_wp2
            go_ret
            exact ⟨by rw [HB.out]; rfl, hbo⟩
  · have HW := Lib.hid hw
    have HE := Lib.hid (errT_large (T := T) (by rw [hn]; omega))
    clear hn
    go_enter Try.func42, Try.ntmps42
    go_wp2_with fail
    refine (within_no _ _ _ _ HW.out).mono ?_
    rintro e w' ⟨rfl, rfl⟩
    go_wp2
    go_ret
    exact ⟨by rw [HE.out]; rfl, Bel.refl _⟩
end Go.Proofs.Ytahkihifgafbnaa
