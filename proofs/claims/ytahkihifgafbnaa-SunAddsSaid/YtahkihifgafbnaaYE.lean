/- Orders: which lists are one, by both; upsets of both. -/
import Derived.Test.YtahkihifgafbnaaYD
import Derived.Test.YtahkihifgafbnaaYB
namespace Go.Proofs.Ytahkihifgafbnaa
open Go.RowKit

/-- The number at place i is a strip's, and none before it is the same. -/
def okI (n : Nat) (l : List Int) (i : Nat) : Prop := ∀ x, l[i]? = some x → (0 ≤ x ∧ x < (n : Int)) ∧ x ∉ l.take i
theorem ord_of {n : Nat} {l : List Int} (hl : l.length = n) (h : ∀ i, i < l.length → okI n l i) : Ord n l := by
  refine ⟨hl, fun x hx => ?_, ?_⟩
  · obtain ⟨i, hi⟩ := List.mem_iff_getElem?.1 hx
    exact (h i (List.getElem?_eq_some_iff.1 hi).1 x hi).1
  · unfold List.Nodup
    rw [List.pairwise_iff_getElem]
    intro i j hi hj hij e
    have := (h j hj l[j] (List.getElem?_eq_getElem hj)).2
    apply this
    rw [← e]
    exact List.mem_of_getElem? (i := i) (by rw [List.getElem?_take, if_pos hij]; exact List.getElem?_eq_getElem hi)
theorem ord_no {n : Nat} {l : List Int} {i : Nat} {x : Int} (hg : l[i]? = some x) (h : ¬ (0 ≤ x ∧ x < (n : Int)) ∨ x ∈ l.take i) : ¬ Ord n l := by
  rintro ⟨_, h2, h3⟩
  rcases h with h | h
  · exact h (h2 x (List.mem_of_getElem? hg))
  · obtain ⟨j, hj⟩ := List.mem_iff_getElem?.1 h
    rw [List.getElem?_take] at hj
    split at hj
    · rename_i hji
      have hi := (List.getElem?_eq_some_iff.1 hg).1
      have hjl := (List.getElem?_eq_some_iff.1 hj).1
      have := List.pairwise_iff_getElem.1 h3 j i hjl hi hji
      rw [List.getElem?_eq_getElem hi] at hg
      rw [List.getElem?_eq_getElem hjl] at hj
      exact this ((Option.some.inj hj).trans (Option.some.inj hg).symm)
    · cases hj
theorem okI_next {n k : Nat} {l : List Int} {x : Int} (h : ∀ i, i < k → okI n l i) (hg : l[k]? = some x) (hx : 0 ≤ x ∧ x < (n : Int)) (hn : x ∉ l.take k) : ∀ i, i < k + 1 → okI n l i := fun i hi => by
  by_cases e : i = k
  · subst e
    intro y hy
    rw [hg] at hy
    obtain rfl := Option.some.inj hy
    exact ⟨hx, hn⟩
  · exact h i (by omega)
set_option maxRecDepth 100000 in
set_option maxHeartbeats 1000000 in
theorem thas_any (A : Option Addr) (n c : Nat) (v : Int) (w : World) (hn : n ≤ maxLen) :
    Calls Try.prog 118 #[.slice A n c, .int .i64 v] w fun e w' => e = .returned (.bool (decide (0 ≤ v ∧ v < (n : Int)))) ∧ w = w' := by
  have h63 : (n : Int) ≤ 9223372036854775807 := by unfold maxLen at hn; omega
  by_cases h0 : 0 ≤ v
  · by_cases h1 : v < (n : Int)
    · have HD := Lib.hid (decide_eq_true (show 0 ≤ v ∧ v < (n : Int) from ⟨h0, h1⟩))
      go_enter Try.func118, Try.ntmps118
      go_wp2
      go_ret
      exact ⟨ret_bool (by first | exact HD.out.symm | (simp [h0, h1]; done) | (simp; omega)), rfl⟩
    · have HD := Lib.hid (decide_eq_false (show ¬ (0 ≤ v ∧ v < (n : Int)) from fun h => h1 h.2))
      go_enter Try.func118, Try.ntmps118
      go_wp2
      go_ret
      exact ⟨ret_bool (by first | exact HD.out.symm | (simp [h1]; done) | (simp; omega)), rfl⟩
  · have HD := Lib.hid (decide_eq_false (show ¬ (0 ≤ v ∧ v < (n : Int)) from fun h => h0 h.1))
    go_enter Try.func118, Try.ntmps118
    go_wp2
    go_ret
    exact ⟨ret_bool (by first | exact HD.out.symm | (simp; done) | (simp; omega)), rfl⟩
set_option maxRecDepth 100000 in
set_option maxHeartbeats 2000000 in
theorem isOrder_any (A : Option Addr) (n c : Nat) (B : Option Addr) (q d : Nat) (l : List Int) (w : World) (hJ : Ints w B l) (hq : l.length = q) (hqd : q ≤ d) (hmax : q ≤ maxLen) (hn : n ≤ maxLen) :
    Calls Try.prog 112 #[.slice A n c, .slice B q d] w fun e w' => e = .returned (.bool (decide (Ord n l))) ∧ w = w' := by
  have Hq := Lib.hid hq
  have h63 : (q : Int) ≤ 9223372036854775807 := by unfold maxLen at hmax; omega
  by_cases hqn : q = n
  · subst hqn
    have key : Calls Try.prog 93 #[.slice A q c, .slice B q d] w fun e w' => e = .returned (.bool (decide (Ord q l))) ∧ w = w' := by
      clear hq
      go_enter Try.func93, Try.ntmps93
      go_wp2
      go_loop [5, 6, 9] (fun _ _ i => ∃ k : Nat, k ≤ q ∧ i = .int .i64 k ∧ ∀ i, i < k → okI q l i) (fun _ _ i => q - (intOf i).toNat)
      case atStart => exact ⟨0, Nat.zero_le _, rfl, fun i hi => by omega⟩
      case round =>
        obtain ⟨k, hk, rfl, hz⟩ := hrel
        have HZ := Lib.hid hz
        clear hz
        by_cases hlt : k < q
        · obtain ⟨b, o, x, rfl, hbl, hg, hc1⟩ := hJ.at_ (k := k) (by rw [Hq.out]; exact hlt)
          have hki : (k : Int) < (q : Int) := by omega
          have hk0 : (0 : Int) ≤ (k : Int) := by omega
          have hkd : (k : Int) ≤ (d : Int) := by omega
          have HG := Lib.hid hg
          have hIT : Ints w (some ⟨b, o, none⟩) (l.take k) := hJ.take k
          have HLT := Lib.hid (show (l.take k).length = k by rw [List.length_take, Hq.out]; omega)
          clear hg
          cases hd1 : decide (0 ≤ x ∧ x < (q : Int))
          · have HN := Lib.hid (show decide (Ord q l) = false from decide_eq_false (ord_no HG.out (.inl (of_decide_eq_false hd1))))
            go_wp2_with (first | (go_at_call 118; refine (thas_any A q c x _ hn).mono ?_; rintro e w1 ⟨rfl, rfl⟩; rw [hd1]))
            go_ret
            exact ⟨ret_bool HN.out.symm, rfl⟩
          · cases hd2 : hasB (l.take k) x
            · have HX := Lib.hid (of_decide_eq_true hd1)
              have HM := Lib.hid (show x ∉ l.take k from fun h => by
                have : hasB (l.take k) x = true := by simpa [hasB] using h
                rw [hd2] at this
                cases this)
              go_wp2_with (first | (go_at_call 118; refine (thas_any A q c x _ hn).mono ?_; rintro e w1 ⟨rfl, rfl⟩; rw [hd1]) | (go_at_call 117; refine (contains_any _ k d (l.take k) x _ hIT HLT.out (by unfold maxLen at *; omega)).mono ?_; rintro e w1 ⟨rfl, rfl⟩; rw [hd2]))
              go_round
              case rel => exact ⟨k + 1, by omega, by go_num, okI_next HZ.out HG.out HX.out HM.out⟩
              case measure => simp [intOf]; omega
            · have HN := Lib.hid (show decide (Ord q l) = false from decide_eq_false (ord_no HG.out (.inr (by simpa [hasB] using hd2))))
              go_wp2_with (first | (go_at_call 118; refine (thas_any A q c x _ hn).mono ?_; rintro e w1 ⟨rfl, rfl⟩; rw [hd1]) | (go_at_call 117; refine (contains_any _ k d (l.take k) x _ hIT HLT.out (by unfold maxLen at *; omega)).mono ?_; rintro e w1 ⟨rfl, rfl⟩; rw [hd2]))
              go_ret
              exact ⟨ret_bool HN.out.symm, rfl⟩
        · obtain rfl : q = k := by omega
          have HN := Lib.hid (show decide (Ord q l) = true from decide_eq_true (ord_of Hq.out (fun i hi => HZ.out i (by rw [← Hq.out]; exact hi))))
          go_wp2
          go_ret
          exact ⟨ret_bool HN.out.symm, rfl⟩
    have hqq : ((q : Int) == (q : Int)) = true := by simp
    clear hq
    go_enter Try.func112, Try.ntmps112
    go_wp2_with (first | (go_at_call 93; refine key.mono ?_; rintro e w1 ⟨rfl, rfl⟩))
    go_ret
    exact ⟨rfl, rfl⟩
  · have hqq : ((q : Int) == (n : Int)) = false := by simp; omega
    have HN := Lib.hid (show decide (Ord n l) = false from decide_eq_false fun h => hqn (by rw [← hq]; exact h.len))
    clear hq
    go_enter Try.func112, Try.ntmps112
    go_wp2
    go_ret
    exact ⟨ret_bool (by rw [HN.out]), rfl⟩
set_option maxRecDepth 100000 in
set_option maxHeartbeats 2000000 in
theorem rIsOrder_any (n : Nat) (B : Option Addr) (q d : Nat) (l : List Int) (w : World) (hJ : Ints w B l) (hq : l.length = q) (hmax : q ≤ maxLen) (hn : n ≤ maxLen) :
    Calls Try.prog 76 #[.slice B q d, .int .i64 (n : Int)] w fun e w' => e = .returned (.bool (decide (Ord n l))) ∧ Bel w w' := by
  have Hq := Lib.hid hq
  have h63 : (q : Int) ≤ 9223372036854775807 := by unfold maxLen at hmax; omega
  by_cases hqn : q = n
  · subst hqn
    have hqq : ((q : Int) != (q : Int)) = false := by simp
    clear hq
    go_enter Try.func76, Try.ntmps76
    go_wp2
    go_loopw [5, 6] (fun i _ wr => ∃ k : Nat, k ≤ q ∧ i = .int .i64 k ∧ Bel w wr ∧ ∀ i, i < k → okI q l i) (fun i _ _ => q - (intOf i).toNat)
    case atStart => exact ⟨0, Nat.zero_le _, rfl, Bel.refl _, fun i hi => by omega⟩
    case round =>
      obtain ⟨k, hk, rfl, hb, hz⟩ := hrel
      have HZ := Lib.hid hz
      clear hz
      by_cases hlt : k < q
      · obtain ⟨b, o, x, rfl, hbl, hg, hc1⟩ := (hJ.bel hb).at_ (k := k) (by rw [Hq.out]; exact hlt)
        have hki : (k : Int) < (q : Int) := by omega
        have hk0 : (0 : Int) ≤ (k : Int) := by omega
        have HG := Lib.hid hg
        clear hg
        by_cases hx : 0 ≤ x ∧ x ≤ (q : Int) - 1
        · have HX := Lib.hid (show 0 ≤ x ∧ x < (q : Int) by omega)
          go_wp2_with (first | (go_at_call 83; refine (within_yes _ _ _ _ hx).mono ?_; rintro e w1 ⟨rfl, rfl⟩))
          obtain ⟨wo, hwo⟩ : ∃ wo : World, wo = wr := ⟨_, rfl⟩
          subst hwo
          go_loopw [6] (fun i wr => ∃ j : Nat, j ≤ k ∧ i = .int .i64 j ∧ Bel wo wr ∧ x ∉ l.take j) (fun i _ => k - (intOf i).toNat)
          case atStart => exact ⟨0, Nat.zero_le _, rfl, Bel.refl _, by simp⟩
          case round =>
            obtain ⟨j, hj, rfl, hbj, hnm⟩ := hrel
            have HNM := Lib.hid hnm
            clear hnm
            have hc1' : wr.cell? ⟨b, o + k, none⟩ = some (.int .i64 x) := by rw [hbj.use.1 _ _ hbl]; exact hc1
            by_cases hjl : j < k
            · obtain ⟨b2, o2, y, hA2, hbl2, hg2, hc2⟩ := (hJ.bel (hb.trans hbj)).at_ (k := j) (by rw [Hq.out]; omega)
              obtain ⟨rfl, rfl⟩ : b = b2 ∧ o = o2 := by simpa using hA2
              have hji : (j : Int) < (k : Int) := by omega
              have hj0 : (0 : Int) ≤ (j : Int) := by omega
              have hjq : (j : Int) < (q : Int) := by omega
              have HT := Lib.hid (take_at hg2)
              clear hA2 hg2
              by_cases hyx : y = x
              · subst hyx
                have HN := Lib.hid (show decide (Ord q l) = false from decide_eq_false (ord_no HG.out (.inr (by
                  have : y ∈ l.take (j + 1) := by rw [HT.out]; simp
                  exact List.mem_of_mem_take (i := j + 1) (by rw [List.take_take, Nat.min_eq_left (by omega)]; exact this)))))
                have hee : (y == y) = true := by simp
                go_wp2
                go_region
                go_wp2
                go_ret
                exact ⟨ret_bool HN.out.symm, by (repeat (first | exact Bel.refl _ | assumption | refine Bel.drew ?_ | refine Bel.drewN ?_ _ | refine Bel.alloc ?_ _ | refine Bel.setCell ?_ (by first | omega | (simp; done) | (simp; omega) | (simp at *; omega)) _ | refine Bel.trans ?_ (by assumption)))⟩
              · have hee : (y == x) = false := by simpa using hyx
                have HN := Lib.hid (show x ∉ l.take (j + 1) by
                  rw [HT.out, List.mem_append, List.mem_singleton]
                  rintro (h | h)
                  · exact HNM.out h
                  · exact hyx h.symm)
                clear hyx
                go_wp2
                go_region
                go_wp2
                go_roundw
                case rel => exact ⟨j + 1, by omega, by go_num, by (repeat (first | exact Bel.refl _ | assumption | refine Bel.drew ?_ | refine Bel.drewN ?_ _ | refine Bel.alloc ?_ _ | refine Bel.setCell ?_ (by first | omega | (simp; done) | (simp; omega) | (simp at *; omega)) _ | refine Bel.trans ?_ (by assumption))), HN.out⟩
                case measure => simp [intOf]; omega
            · obtain rfl : k = j := by omega
              have HN := Lib.hid (okI_next HZ.out HG.out HX.out HNM.out)
              go_wp2
              go_roundw
              case rel => exact ⟨k + 1, by omega, by go_num, hb.trans hbj, HN.out⟩
              case measure => simp [intOf]; omega
        · have HN := Lib.hid (show decide (Ord q l) = false from decide_eq_false (ord_no HG.out (.inl (by omega))))
          go_wp2_with (first | (go_at_call 83; refine (within_no _ _ _ _ hx).mono ?_; rintro e w1 ⟨rfl, rfl⟩))
          go_ret
          exact ⟨ret_bool HN.out.symm, hb⟩
      · obtain rfl : q = k := by omega
        have HN := Lib.hid (show decide (Ord q l) = true from decide_eq_true (ord_of Hq.out (fun i hi => HZ.out i (by rw [← Hq.out]; exact hi))))
        go_wp2
        go_ret
        exact ⟨ret_bool HN.out.symm, hb⟩
  · have hqq : ((q : Int) != (n : Int)) = true := by simp; omega
    have hqq' : ¬ (q : Int) = (n : Int) := by omega
    have HN := Lib.hid (show decide (Ord n l) = false from decide_eq_false fun h => hqn (by rw [← hq]; exact h.len))
    clear hq
    go_enter Try.func76, Try.ntmps76
    go_wp2
    go_ret
    exact ⟨ret_bool HN.out.symm, Bel.refl _⟩
/-- The error of a table and an order. -/
def errO (T : List (List Int)) (l : List Int) : Int := if errT T = 0 then (if Ord T.length l then 0 else 1) else errT T
set_option maxRecDepth 100000 in
theorem validateOrder_any (lo : Nat) (A : Option Addr) (n c : Nat) (T : List (List Int)) (B : Option Addr) (q d : Nat) (l : List Int) (w : World) (hR : Tab lo w A T) (hn : T.length = n) (hnx : n ≤ maxLen) (hJ : Ints w B l) (hq : l.length = q) (hqd : q ≤ d) (hmax : q ≤ maxLen) :
    Calls Try.prog 84 #[.slice A n c, .slice B q d] w fun e w' => e = .returned (.int .i64 (errO T l)) ∧ Bel w w' := by
  have Hn := Lib.hid hn; have Hq := Lib.hid hq
  by_cases h0 : errT T = 0
  · have HE := Lib.hid h0
    have HO := Lib.hid (show errO T l = if Ord n l then 0 else 1 by unfold errO; rw [if_pos h0, hn])
    rw [HO.out]
    clear hn hq h0
    cases hd : decide (Ord n l)
    · have HN := Lib.hid (of_decide_eq_false hd)
      rw [if_neg HN.out]
      go_enter Try.func84, Try.ntmps84
      go_wp2_with (first | (go_at_call 41; refine (validate_any lo A n c T _ hR Hn.out).mono ?_; rintro e w1 ⟨rfl, hb1⟩; rw [HE.out]) | (go_at_call 112; refine (isOrder_any A n c B q d l _ (hJ.bel hb1) Hq.out hqd hmax hnx).mono ?_; rintro e w2 ⟨rfl, rfl⟩; rw [hd]))
      go_ret
      exact ⟨rfl, hb1⟩
    · have HN := Lib.hid (of_decide_eq_true hd)
      rw [if_pos HN.out]
      go_enter Try.func84, Try.ntmps84
      go_wp2_with (first | (go_at_call 41; refine (validate_any lo A n c T _ hR Hn.out).mono ?_; rintro e w1 ⟨rfl, hb1⟩; rw [HE.out]) | (go_at_call 112; refine (isOrder_any A n c B q d l _ (hJ.bel hb1) Hq.out hqd hmax hnx).mono ?_; rintro e w2 ⟨rfl, rfl⟩; rw [hd]))
      go_ret
      exact ⟨rfl, hb1⟩
  · have HO := Lib.hid (show errO T l = errT T by unfold errO; rw [if_neg h0])
    rw [HO.out]
    have hE' : (errT T != 0) = true := by simpa using h0
    clear h0 hn hq HO
    generalize hv : errT T = v at *
    have HV := Lib.hid hv
    clear hv
    go_enter Try.func84, Try.ntmps84
    go_wp2_with fail
    refine (validate_any lo A n c T _ hR Hn.out).mono ?_
    rintro e w1 ⟨rfl, hb1⟩
    rw [HV.out]
    go_wp2
    go_ret
    exact ⟨rfl, hb1⟩
set_option maxRecDepth 100000 in
theorem ordered_any (lo : Nat) (A : Option Addr) (n c : Nat) (T : List (List Int)) (B : Option Addr) (q d : Nat) (l : List Int) (w : World) (hR : Tab lo w A T) (hn : T.length = n) (hnx : n ≤ maxLen) (hJ : Ints w B l) (hq : l.length = q) (hmax : q ≤ maxLen) :
    Calls Try.prog 86 #[.slice A n c, .slice B q d] w fun e w' => e = .returned (.int .i64 (errO T l)) ∧ Bel w w' := by
  have Hn := Lib.hid hn; have Hq := Lib.hid hq
  by_cases h0 : errT T = 0
  · have HE := Lib.hid h0
    have HO := Lib.hid (show errO T l = if Ord n l then 0 else 1 by unfold errO; rw [if_pos h0, hn])
    rw [HO.out]
    clear hn hq h0
    cases hd : decide (Ord n l)
    · have HN := Lib.hid (of_decide_eq_false hd)
      rw [if_neg HN.out]
      go_enter Try.func86, Try.ntmps86
      go_wp2_with (first | (go_at_call 42; refine (rvalidate_any lo A n c T _ hR Hn.out).mono ?_; rintro e w1 ⟨rfl, hb1⟩; rw [HE.out]) | (go_at_call 76; refine (rIsOrder_any n B q d l _ (hJ.bel hb1) Hq.out hmax hnx).mono ?_; rintro e w2 ⟨rfl, hb2⟩; rw [hd]))
      go_ret
      exact ⟨rfl, hb1.trans hb2⟩
    · have HN := Lib.hid (of_decide_eq_true hd)
      rw [if_pos HN.out]
      go_enter Try.func86, Try.ntmps86
      go_wp2_with (first | (go_at_call 42; refine (rvalidate_any lo A n c T _ hR Hn.out).mono ?_; rintro e w1 ⟨rfl, hb1⟩; rw [HE.out]) | (go_at_call 76; refine (rIsOrder_any n B q d l _ (hJ.bel hb1) Hq.out hmax hnx).mono ?_; rintro e w2 ⟨rfl, hb2⟩; rw [hd]))
      go_ret
      exact ⟨rfl, hb1.trans hb2⟩
  · have HO := Lib.hid (show errO T l = errT T by unfold errO; rw [if_neg h0])
    rw [HO.out]
    have hE' : (errT T != 0) = true := by simpa using h0
    clear h0 hn hq HO
    generalize hv : errT T = v at *
    have HV := Lib.hid hv
    clear hv
    go_enter Try.func86, Try.ntmps86
    go_wp2_with fail
    refine (rvalidate_any lo A n c T _ hR Hn.out).mono ?_
    rintro e w1 ⟨rfl, hb1⟩
    rw [HV.out]
    go_wp2
    go_ret
    exact ⟨rfl, hb1⟩
end Go.Proofs.Ytahkihifgafbnaa
