/- The document's Tells. -/
import Derived.Test.YtmckoehkekkldaaX
namespace Go.Proofs.Ytmckoehkekkldaa
open Go.RowKit

theorem markL_at (P : List Wg) (x : Int) (k : Nat) : (markL P x)[k]? = if k < P.length then some (markN P x k) else none := by
  by_cases h : k < P.length
  · rw [if_pos h, markL, List.getElem?_map, List.getElem?_eq_getElem h, markN_at (List.getElem?_eq_getElem h)]
    rfl
  · rw [if_neg h, List.getElem?_eq_none (by rw [markL_length]; omega)]
theorem blank_mark {P : List Wg} (h3 : P.length ≤ 3) (x : Int) : blankB (markL P x) = decide (markN P x 0 = 0 ∧ markN P x 1 = 0 ∧ markN P x 2 = 0) := by
  rw [Bool.eq_iff_iff, decide_eq_true_iff]
  unfold blankB
  rw [List.all_eq_true]
  constructor
  · intro h
    have each : ∀ k, markN P x k = 0 := by
      intro k
      by_cases hk : k < P.length
      · have := h (markN P x k) (List.mem_of_getElem? (i := k) (by rw [markL_at, if_pos hk]))
        simpa using this
      · exact markN_out (by omega) x
    exact ⟨each 0, each 1, each 2⟩
  · rintro ⟨h0, h1, h2⟩ v hv
    obtain ⟨k, hk⟩ := List.mem_iff_getElem?.1 hv
    rw [markL_at] at hk
    split at hk
    · injection hk with hk
      subst hk
      rcases (by omega : k = 0 ∨ k = 1 ∨ k = 2) with rfl | rfl | rfl
      · simpa using h0
      · simpa using h1
      · simpa using h2
    · cases hk
theorem same_mark {P : List Wg} (h3 : P.length ≤ 3) (x y : Int) : decide (markL P x = markL P y) = decide (markN P x 0 = markN P y 0 ∧ markN P x 1 = markN P y 1 ∧ markN P x 2 = markN P y 2) := by
  rw [Bool.eq_iff_iff, decide_eq_true_iff, decide_eq_true_iff]
  constructor
  · intro h
    unfold markN
    rw [h]
    exact ⟨rfl, rfl, rfl⟩
  · rintro ⟨h0, h1, h2⟩
    apply List.ext_getElem?
    intro k
    rw [markL_at, markL_at]
    split
    · rcases (by omega : k = 0 ∨ k = 1 ∨ k = 2) with rfl | rfl | rfl
      · rw [h0]
      · rw [h1]
      · rw [h2]
    · rfl
theorem opp_mark {P : List Wg} (h3 : P.length ≤ 3) (x y : Int) : decide (markL P x = timesL (markL P y) (-1)) = decide (markN P x 0 = -markN P y 0 ∧ markN P x 1 = -markN P y 1 ∧ markN P x 2 = -markN P y 2) := by
  have ht : ∀ k, (timesL (markL P y) (-1))[k]? = if k < P.length then some (-markN P y k) else none := by
    intro k
    unfold timesL
    rw [List.getElem?_map, markL_at]
    split
    · simp only [Option.map_some]
      congr 1
      omega
    · rfl
  rw [Bool.eq_iff_iff, decide_eq_true_iff, decide_eq_true_iff]
  constructor
  · intro h
    have each : ∀ k, markN P x k = -markN P y k := by
      intro k
      by_cases hk : k < P.length
      · have h1 := markL_at P x k
        rw [h, ht k, if_pos hk, if_pos hk] at h1
        injection h1 with h1
        exact h1.symm
      · rw [markN_out (by omega), markN_out (by omega)]
        rfl
    exact ⟨each 0, each 1, each 2⟩
  · rintro ⟨h0, h1, h2⟩
    apply List.ext_getElem?
    intro k
    rw [markL_at, ht]
    split
    · rcases (by omega : k = 0 ∨ k = 1 ∨ k = 2) with rfl | rfl | rfl
      · rw [h0]
      · rw [h1]
      · rw [h2]
    · rfl
/-- A lot against a lot, and against all before it. -/
def tellXY (P : List Wg) (x y : Nat) : Bool := !(decide (markL P (x : Int) = markL P (y : Int))) && !(decide (markL P (x : Int) = timesL (markL P (y : Int)) (-1)))
def tellX (P : List Wg) (x : Nat) : Bool := !(blankB (markL P (x : Int))) && (List.range x).all (tellXY P x)
theorem tellB_eq {P : List Wg} (h3 : P.length ≤ 3) (n : Nat) : tellB P n = (List.range n).all (tellX P) := by
  unfold tellB tellX
  congr 1
  funext x
  rw [blank_mark h3]
  congr 2
  funext y
  unfold tellXY
  rw [same_mark h3, opp_mark h3]
theorem range_next {f : Nat → Bool} {k : Nat} (h : (List.range k).all f = true) (hk : f k = true) : (List.range (k + 1)).all f = true := by
  rw [List.range_succ, List.all_append, h]
  simpa using hk
theorem range_no {f : Nat → Bool} {k n : Nat} (hk : k < n) (h : f k = false) : (List.range n).all f = false := by
  rw [List.all_eq_false]
  exact ⟨k, List.mem_range.2 hk, by simp [h]⟩
theorem mark_bd (P : List Wg) (x y : Int) (hy : y = 1 ∨ y = -1 ∨ y = 0) : ∀ v ∈ markL P x, -1 ≤ y * v ∧ y * v ≤ 1 := by
  intro v hv
  obtain ⟨p, _, rfl⟩ := List.mem_map.1 hv
  rcases sd_cases x p with h | h | h <;> rw [h] <;> rcases hy with rfl | rfl | rfl <;> decide

set_option maxRecDepth 100000 in
set_option maxHeartbeats 4000000 in
theorem rtells_ok (lo n : Nat) (A : Option Addr) (m c : Nat) (P : List Wg) (w : World) (hR : Plan lo w A P) (hm : P.length = m) (hG : Good n P) :
    Calls Try.prog 97 #[.int .i64 (n : Int), .slice A m c] w fun e w' => e = .returned (.bool (tellB P n)) ∧ Bel w w' := by
  have h3 := hG.few
  have hm3 : m ≤ 3 := by omega
  have hn13 := hG.le
  have HE := Lib.hid (tellB_eq h3 n)
  have Hm := Lib.hid hm; have HGo := Lib.hid hG
  clear hm hG h3
  go_enter Try.func97, Try.ntmps97
  go_wp2
  go_loopw [5, 6, 7] (fun i _ _ wr => ∃ x : Nat, x ≤ n ∧ i = .int .i64 x ∧ Bel w wr ∧ (List.range x).all (tellX P) = true) (fun i _ _ _ => n - (intOf i).toNat)
  case atStart => exact ⟨0, Nat.zero_le _, rfl, Bel.refl _, rfl⟩
  case round =>
    obtain ⟨x, hx, rfl, hb, hall⟩ := hrel
    have HA := Lib.hid hall
    clear hall
    by_cases hlt : x < n
    · have hxi : (x : Int) < (n : Int) := by omega
      go_wp2_with fail
      refine (rMark_any lo n A m c P (x : Int) _ (hR.bel hb) Hm.out HGo.out).mono ?_
      rintro e w1 ⟨v1, rfl, hO1, hb1⟩
      obtain ⟨A1, n1, c1, rfl, hn1, hI1⟩ := hO1.form
      rw [markL_length, Hm.out] at hn1
      subst hn1
      clear hO1
      have hlen1 : Hid ((markL P (x : Int)).length = n1) := by show _ = _; rw [markL_length, Hm.out]
      cases hbl : blankB (markL P (x : Int))
      · have HBL := Lib.hid hbl
        go_wp2_with fail
        refine (rBlank_any A1 n1 c1 _ _ hI1 hlen1.out (by unfold maxLen; omega)).mono ?_
        rintro e w2 ⟨rfl, hw2⟩
        subst hw2
        rw [hbl]
        clear hbl
        have hb01 := hb.trans hb1
        go_wp2
        go_loopw [7] (fun j wr => ∃ y : Nat, y ≤ x ∧ j = .int .i64 y ∧ Bel w1 wr ∧ (List.range y).all (tellXY P x) = true) (fun j _ => x - (intOf j).toNat)
        case atStart => exact ⟨0, Nat.zero_le _, rfl, Bel.refl _, rfl⟩
        case round =>
          obtain ⟨y, hy, rfl, hby, hally⟩ := hrel
          have HY := Lib.hid hally
          clear hally
          by_cases hyl : y < x
          · have hyi : (y : Int) < (x : Int) := by omega
            go_wp2_with fail
            refine (rMark_any lo n A n1 c P (y : Int) _ (hR.bel (hb01.trans hby)) Hm.out HGo.out).mono ?_
            rintro e w3 ⟨v3, rfl, hO3, hb3⟩
            obtain ⟨A3, n3, c3, rfl, hn3, hI3⟩ := hO3.form
            rw [markL_length, Hm.out] at hn3
            subst hn3
            clear hO3
            have hlen3 : Hid ((markL P (y : Int)).length = n3) := by show _ = _; rw [markL_length, Hm.out]
            go_wp2_with fail
            refine (sameInts_all A1 A3 n3 c1 n3 c3 _ _ _ (hI1.bel (hby.trans hb3)) hI3 hlen1.out hlen3.out (by unfold maxLen; omega)).mono ?_
            rintro e w4 ⟨rfl, hb4⟩
            cases hs : decide (markL P (x : Int) = markL P (y : Int))
            · have HSM := Lib.hid hs
              have hb14 : Bel w1 w4 := (hby.trans hb3).trans hb4
              clear hs hb3 hb4 hI3
              go_wp2_with fail
              refine (rMark_any lo n A n3 c P (y : Int) _ (hR.bel (hb01.trans hb14)) Hm.out HGo.out).mono ?_
              rintro e w5 ⟨v5, rfl, hO5, hb5⟩
              obtain ⟨A5, n5, c5, rfl, hn5, hI5⟩ := hO5.form
              rw [markL_length, Hm.out] at hn5
              subst hn5
              clear hO5
              go_wp2_with fail
              refine (rTimes_any A5 n5 c5 _ (-1) _ hI5 hlen3.out (by omega) (mark_bd P _ _ (.inr (.inl rfl)))).mono ?_
              rintro e w6 ⟨v6, rfl, hO6, hb6⟩
              obtain ⟨A6, n6, c6, rfl, hn6, hI6⟩ := hO6.form
              rw [timesL, List.length_map, markL_length, Hm.out] at hn6
              subst hn6
              clear hO6
              have hlen6 : Hid ((timesL (markL P (y : Int)) (-1)).length = n6) := by show _ = _; rw [timesL, List.length_map, markL_length, Hm.out]
              go_wp2_with fail
              refine (sameInts_all A1 A6 n6 c1 n6 c6 _ _ _ (hI1.bel ((hb14.trans hb5).trans hb6)) hI6 hlen1.out hlen6.out (by unfold maxLen; omega)).mono ?_
              rintro e w7 ⟨rfl, hb7⟩
              cases ho : decide (markL P (x : Int) = timesL (markL P (y : Int)) (-1))
              · have HS : Hid ((List.range (y + 1)).all (tellXY P x) = true) := range_next HY.out (by unfold tellXY; rw [HSM.out, ho]; rfl)
                clear ho
                go_wp2
                go_roundw
                case rel => exact ⟨y + 1, by omega, by go_num, ((hb14.trans hb5).trans hb6).trans hb7, HS.out⟩
                case measure => simp [intOf]; omega
              · have HS : Hid (tellB P n = false) := by
                  show _ = _
                  rw [HE.out]
                  refine range_no hlt ?_
                  unfold tellX
                  rw [range_no hyl (by unfold tellXY; rw [ho]; simp)]
                  simp
                clear ho
                go_wp2
                go_ret
                exact ⟨ret_bool HS.out.symm, hb01.trans (((hb14.trans hb5).trans hb6).trans hb7)⟩
            · have HS : Hid (tellB P n = false) := by
                show _ = _
                rw [HE.out]
                refine range_no hlt ?_
                unfold tellX
                rw [range_no hyl (by unfold tellXY; rw [hs]; simp)]
                simp
              clear hs
              go_wp2
              go_ret
              exact ⟨ret_bool HS.out.symm, hb01.trans ((hby.trans hb3).trans hb4)⟩
          · obtain rfl : y = x := by omega
            have HS : Hid ((List.range (y + 1)).all (tellX P) = true) := range_next HA.out (by unfold tellX; rw [HBL.out, HY.out]; rfl)
            go_wp2
            go_roundw
            case rel => exact ⟨y + 1, by omega, by go_num, hb01.trans hby, HS.out⟩
            case measure => simp [intOf]; omega
      · have HS : Hid (tellB P n = false) := by
          show _ = _
          rw [HE.out]
          refine range_no hlt ?_
          unfold tellX
          rw [hbl]
          rfl
        go_wp2_with fail
        refine (rBlank_any A1 n1 c1 _ _ hI1 hlen1.out (by unfold maxLen; omega)).mono ?_
        rintro e w2 ⟨rfl, hw2⟩
        subst hw2
        rw [hbl]
        go_wp2
        go_ret
        exact ⟨ret_bool HS.out.symm, hb.trans hb1⟩
    · obtain rfl : x = n := by omega
      have HS : Hid (tellB P x = true) := by
        show _ = _
        rw [HE.out]
        exact HA.out
      go_wp2
      go_ret
      exact ⟨ret_bool HS.out.symm, hb⟩
set_option maxRecDepth 100000 in
set_option maxHeartbeats 1000000 in
theorem rTells_any (lo : Nat) (n : Int) (A : Option Addr) (m c : Nat) (P : List Wg) (w : World) (hR : Plan lo w A P) (hm : P.length = m) :
    Calls Try.prog 56 #[.int .i64 n, .slice A m c] w fun e w' => e = .returned (.tuple #[.bool (tellV P n), .int .i64 (errV n P)]) ∧ Bel w w' := by
  have Hm := Lib.hid hm
  clear hm
  by_cases h : errV n P = 0
  · obtain ⟨k, rfl, hG⟩ := errV_good h
    have HE := Lib.hid h
    have HT : Hid (tellV P (k : Int) = tellB P k) := by show _ = _; unfold tellV; rw [if_pos h]; rfl
    clear h
    go_enter Try.func56, Try.ntmps56
    go_wp2_with fail
    refine (rValidate_any lo _ A m c P _ hR Hm.out).mono ?_
    rintro e w1 ⟨rfl, hb1⟩
    rw [HE.out]
    go_wp2_with fail
    refine (rtells_ok lo k A m c P _ (hR.bel hb1) Hm.out hG).mono ?_
    rintro e w2 ⟨rfl, hb2⟩
    rw [← HT.out]
    go_wp2
    exact bodyPost_ret (v := .tuple #[.bool (tellV P (k : Int)), .int .i64 0]) (by simp [results, Try.results56, go_sem]) rfl ⟨by rw [HE.out], hb1.trans hb2⟩
  · have hE' : (errV n P != 0) = true := by simpa using h
    have HT : Hid (tellV P n = false) := by show _ = _; unfold tellV; rw [if_neg h]
    generalize hv : errV n P = v at *
    have HV := Lib.hid hv
    clear hv
    go_enter Try.func56, Try.ntmps56
    go_wp2_with fail
    refine (rValidate_any lo n A m c P _ hR Hm.out).mono ?_
    rintro e w1 ⟨rfl, hb1⟩
    rw [HV.out]
    go_wp2
    exact bodyPost_ret (v := .tuple #[.bool false, .int .i64 v]) (by simp [results, Try.results56, go_sem]) rfl ⟨by rw [HT.out], hb1⟩
end Go.Proofs.Ytmckoehkekkldaa
