/- Validate of the program. -/
import Derived.Test.YtahkihifgafbnaaG
namespace Go.Proofs.Ytahkihifgafbnaa
open Go.RowKit

theorem Tab.toN {lo m : Nat} {w : World} {A : Option Addr} {T : List (List Int)} (h : Tab lo w A T) (hs : Square T m) (h1 : 1 ≤ m) : TabN (· < w.heap.size) w A T := by
  rcases h with rfl | ⟨b, o, rfl, -, hl, hc⟩
  · have := hs.1
    simp at this
    omega
  · refine ⟨b, o, rfl, hl, fun j ns hj => ?_⟩
    obtain ⟨A', n', c', k1, k2, k3, k4, -⟩ := hc j ns hj
    have hlen := hs.2 ns (List.mem_of_getElem? hj)
    rcases k2 with rfl | ⟨b', o', rfl, hl', hcc⟩
    · simp at hlen
      omega
    · exact ⟨b', o', n', c', k1, k3, hl', hcc⟩
theorem errT_large {T : List (List Int)} (h : ¬ (1 ≤ T.length ∧ T.length ≤ 7)) : errT T = 3 := by unfold errT; rw [if_neg h]
theorem errT_of {T : List (List Int)} (h : 1 ≤ T.length ∧ T.length ≤ 7) {b : Bool} (hb : (rowsB T T.length && diagB T T.length) = b) : errT T = if b = true then 0 else 1 := by unfold errT; rw [if_pos h, hb]
theorem diagB_next {T : List (List Int)} {k : Nat} (h : diagB T k = true) (h0 : ent T k k = 0) (hp : pairsB T k k = true) : diagB T (k + 1) = true := by
  unfold diagB at h ⊢
  rw [List.range_succ, List.all_append, h]
  simp [h0, hp]
theorem diagB_no {T : List (List Int)} {k n : Nat} (hk : k < n) (h : ent T k k ≠ 0 ∨ pairsB T k k = false) : diagB T n = false := by
  cases hb : diagB T n
  · rfl
  · have := List.all_eq_true.1 hb k (List.mem_range.2 hk)
    simp only [Bool.and_eq_true, decide_eq_true_eq] at this
    rcases h with h | h
    · exact absurd this.1 h
    · rw [this.2] at h; cases h
theorem pairsB_next {T : List (List Int)} {a k : Nat} (h : pairsB T a k = true) (hne : ent T a k ≠ ent T k a) : pairsB T a (k + 1) = true := by
  unfold pairsB at h ⊢
  rw [List.range_succ, List.all_append, h]
  simp [hne]
theorem pairsB_no {T : List (List Int)} {a k n : Nat} (hk : k < n) (h : ent T a k = ent T k a) : pairsB T a n = false := by
  cases hb : pairsB T a n
  · rfl
  · have := List.all_eq_true.1 hb k (List.mem_range.2 hk)
    simp [h] at this
theorem rowsB_no {T : List (List Int)} {k n : Nat} {r : List Int} (hg : T[k]? = some r) (h : rowB n r = false) : rowsB T n = false := by
  cases hb : rowsB T n
  · rfl
  · have := List.all_eq_true.1 hb r (List.mem_of_getElem? hg)
    rw [h] at this; cases this
theorem rowsB_next {T : List (List Int)} {k n : Nat} {r : List Int} (h : rowsB (T.take k) n = true) (hg : T[k]? = some r) (hr : rowB n r = true) : rowsB (T.take (k + 1)) n = true := by
  unfold rowsB at h ⊢
  rw [take_at hg, List.all_append, h]
  simp [hr]

set_option maxRecDepth 100000 in
set_option maxHeartbeats 4000000 in
theorem validate_any (lo : Nat) (A : Option Addr) (n c : Nat) (T : List (List Int)) (w : World) (hR : Tab lo w A T) (hn : T.length = n) :
    Calls Try.prog 41 #[.slice A n c] w fun e w' => e = .returned (.int .i64 (errT T)) ∧ Bel w w' := by
  have Hn := Lib.hid hn
  clear hn
  by_cases h17 : 1 ≤ n ∧ n ≤ 7
  · have hd : decide (1 ≤ n ∧ n ≤ 7) = true := by simpa using h17
    obtain ⟨h1, h7⟩ := h17
    have HE : Hid (∀ b : Bool, (rowsB T n && diagB T n) = b → errT T = if b = true then 0 else 1) := fun b hb => errT_of (by rw [Hn.out]; omega) (by rw [Hn.out]; exact hb)
    have hn7 : (n : Int) ≤ 7 := by omega
    go_enter Try.func41, Try.ntmps41
    go_wp2_with (go_at_call 81; refine (isCount_any n _).mono ?_; rintro e w' ⟨rfl, rfl⟩; rw [hd])
    go_loop [4, 13] (fun _ i => ∃ k : Nat, k ≤ n ∧ i = .int .i64 k ∧ rowsB (T.take k) n = true) (fun _ i => n - (intOf i).toNat)
    case atStart => exact ⟨0, Nat.zero_le _, rfl, rfl⟩
    case round =>
      obtain ⟨k, hk, rfl, hall⟩ := hrel
      have HA := Lib.hid hall
      clear hall
      by_cases hlt : k < n
      · obtain ⟨b, o, r, A', m', c', rfl, hbl, hg, hc, hI, hl, hm'⟩ := hR.at_ (k := k) (by rw [Hn.out]; exact hlt)
        have HG := Lib.hid hg
        have HL := Lib.hid hl
        have hki : (k : Int) < (n : Int) := by omega
        clear hg hl
        cases hb : rowB n r
        · have HN : Hid (errT T = 1) := by
            have := HE.out false (by rw [rowsB_no HG.out hb]; rfl)
            exact this
          go_wp2_with (go_at_call 82; refine (areAnswers_any A' m' c' r n _ hI HL.out hm').mono ?_; rintro e w' ⟨rfl, rfl⟩; rw [hb])
          go_ret
          exact ⟨ret_int HN.out.symm, Bel.refl _⟩
        · go_wp2_with (go_at_call 82; refine (areAnswers_any A' m' c' r n _ hI HL.out hm').mono ?_; rintro e w' ⟨rfl, rfl⟩; rw [hb])
          go_round
          case rel => exact ⟨k + 1, by omega, by go_num, rowsB_next HA.out HG.out hb⟩
          case measure => simp [intOf]; omega
      · obtain rfl : n = k := by omega
        have HRW : Hid (rowsB T n = true) := by
          have := HA.out
          rw [List.take_of_length_le (by rw [Hn.out]; omega)] at this
          exact this
        have hsq := rowsB_square Hn.out HRW.out
        have hN := hR.toN hsq h1
        clear HA
        go_wp2
        go_loopw [5, 6, 25, 37] (fun _ _ i _ wr => ∃ a : Nat, a ≤ n ∧ i = .int .i64 a ∧ diagB T a = true ∧ Bel w wr) (fun _ _ i _ _ => n - (intOf i).toNat)
        case atStart => exact ⟨0, Nat.zero_le _, rfl, rfl, Bel.refl _⟩
        case round =>
          obtain ⟨a, ha, rfl, hdg, hba⟩ := hrel
          have HDG := Lib.hid hdg
          clear hdg
          by_cases han : a < n
          · have hai : (a : Int) < (n : Int) := by omega
            have ha0 : (0 : Int) ≤ (a : Int) := by omega
            obtain ⟨r, q1, q2, q3⟩ := hsq.at_ han han
            obtain ⟨bt, ot, rfl, hbt, hcc⟩ := hN
            obtain ⟨b', o', n', c', k1, k2, k3, k4⟩ := hcc a r q1
            have k5 := k4 a _ q3
            obtain rfl : n' = n := by omega
            have hrow : Hid (∀ x, x < n' → ∃ b2 o2 c2, b2 < w.heap.size ∧ w.cell? ⟨bt, ot + x, none⟩ = some (.slice (some ⟨b2, o2, none⟩) n' c2) ∧ w.cell? ⟨b2, o2 + a, none⟩ = some (.int .i64 (ent T x a))) := fun x hx => by
              obtain ⟨r2, p1, p2, p3⟩ := hsq.at_ hx han
              obtain ⟨b2, o2, n2, c2, m1, m2, m3, m4⟩ := hcc x r2 p1
              obtain rfl : n2 = n' := by omega
              exact ⟨b2, o2, c2, m3, m1, m4 a _ p3⟩
            have hown : Hid (∀ x, x < n' → w.cell? ⟨b', o' + x, none⟩ = some (.int .i64 (ent T a x))) := fun x hx => by
              obtain ⟨r2, p1, p2, p3⟩ := hsq.at_ han hx
              rw [q1] at p1
              injection p1 with p1
              subst p1
              exact k4 x _ p3
            have c1 : wr.cell? ⟨bt, ot + a, none⟩ = some (.slice (some ⟨b', o', none⟩) n' c') := by rw [hba.use.1 _ _ hbt]; exact k1
            have c2 : wr.cell? ⟨b', o' + a, none⟩ = some (.int .i64 (ent T a a)) := by rw [hba.use.1 _ _ k3]; exact k5
            clear q1 q2 q3 hcc k4 k2 k5
            by_cases hz : ent T a a = 0
            · have HZ := Lib.hid hz
              rw [hz] at c2
              clear hz
              go_wp2
              go_loopw [6, 37] (fun _ i wq => ∃ x : Nat, x ≤ a ∧ i = .int .i64 x ∧ pairsB T a x = true ∧ Bel w wq) (fun _ i _ => a - (intOf i).toNat)
              case atStart => exact ⟨0, Nat.zero_le _, rfl, rfl, hba⟩
              case round =>
                clear c1 c2
                obtain ⟨x, hx, rfl, hpp, hbx⟩ := hrel
                have HPP := Lib.hid hpp
                clear hpp
                by_cases hxa : x < a
                · obtain ⟨b2, o2, c2', m3, m1, m2⟩ := hrow.out x (by omega)
                  have m4 := hown.out x (by omega)
                  have d1 : wr.cell? ⟨bt, ot + a, none⟩ = some (.slice (some ⟨b', o', none⟩) n' c') := by rw [hbx.use.1 _ _ hbt]; exact k1
                  have d2 : wr.cell? ⟨b', o' + x, none⟩ = some (.int .i64 (ent T a x)) := by rw [hbx.use.1 _ _ k3]; exact m4
                  have d3 : wr.cell? ⟨bt, ot + x, none⟩ = some (.slice (some ⟨b2, o2, none⟩) n' c2') := by rw [hbx.use.1 _ _ hbt]; exact m1
                  have d4 : wr.cell? ⟨b2, o2 + a, none⟩ = some (.int .i64 (ent T x a)) := by rw [hbx.use.1 _ _ m3]; exact m2
                  have hxi : (x : Int) < (a : Int) := by omega
                  have hxn : (x : Int) < (n' : Int) := by omega
                  have hx0 : (0 : Int) ≤ (x : Int) := by omega
                  clear m1 m2 m4
                  by_cases heq : ent T a x = ent T x a
                  · have HN : Hid (errT T = 1) := HE.out false (by rw [diagB_no han (.inr (pairsB_no hxa heq)), Bool.and_false])
                    rw [heq] at d2
                    generalize ent T x a = v at *
                    go_wp2
                    go_quiet (fail)
                    go_wp2
                    go_ret
                    exact ⟨ret_int HN.out.symm, by (repeat (first | exact Bel.refl _ | assumption | refine Bel.drew ?_ | refine Bel.drewN ?_ _ | refine Bel.alloc ?_ _ | refine Bel.setCell ?_ (by first | omega | (simp; done) | (simp; omega) | (simp at *; omega)) _ | refine Bel.trans ?_ (by assumption)))⟩
                  · have hne : (ent T a x == ent T x a) = false := by simpa using heq
                    have hpn := Lib.hid (pairsB_next HPP.out heq)
                    generalize ent T x a = v at *
                    generalize ent T a x = u at *
                    go_wp2
                    go_quiet (fail)
                    go_wp2
                    go_roundw
                    case rel => exact ⟨x + 1, by omega, by go_num, hpn.out, by (repeat (first | exact Bel.refl _ | assumption | refine Bel.drew ?_ | refine Bel.drewN ?_ _ | refine Bel.alloc ?_ _ | refine Bel.setCell ?_ (by first | omega | (simp; done) | (simp; omega) | (simp at *; omega)) _ | refine Bel.trans ?_ (by assumption)))⟩
                    case measure => simp [intOf]; omega
                · obtain rfl : a = x := by omega
                  go_wp2
                  go_roundw
                  case rel => exact ⟨a + 1, by omega, by go_num, diagB_next HDG.out HZ.out HPP.out, hbx⟩
                  case measure => simp [intOf]; omega
            · have HN : Hid (errT T = 1) := HE.out false (by rw [diagB_no han (.inl hz), Bool.and_false])
              have hz' : (ent T a a != 0) = true := by simpa using hz
              generalize ent T a a = v at *
              go_wp2
              go_ret
              exact ⟨ret_int HN.out.symm, by (repeat (first | exact Bel.refl _ | assumption | refine Bel.drew ?_ | refine Bel.drewN ?_ _ | refine Bel.alloc ?_ _ | refine Bel.setCell ?_ (by first | omega | (simp; done) | (simp; omega) | (simp at *; omega)) _ | refine Bel.trans ?_ (by assumption)))⟩
          · obtain rfl : n = a := by omega
            have HN : Hid (errT T = 0) := HE.out true (by rw [HRW.out, HDG.out]; rfl)
            go_wp2
            go_ret
            exact ⟨ret_int HN.out.symm, by (repeat (first | exact Bel.refl _ | assumption | refine Bel.drew ?_ | refine Bel.drewN ?_ _ | refine Bel.alloc ?_ _ | refine Bel.setCell ?_ (by first | omega | (simp; done) | (simp; omega) | (simp at *; omega)) _ | refine Bel.trans ?_ (by assumption)))⟩
  · have hd : decide (1 ≤ n ∧ n ≤ 7) = false := by simpa using h17
    have HE : Hid (errT T = 3) := errT_large (by rw [Hn.out]; exact h17)
    go_enter Try.func41, Try.ntmps41
    go_wp2_with (go_at_call 81; refine (isCount_any n _).mono ?_; rintro e w' ⟨rfl, rfl⟩; rw [hd])
    go_ret
    exact ⟨ret_int HE.out.symm, Bel.refl _⟩
end Go.Proofs.Ytahkihifgafbnaa
