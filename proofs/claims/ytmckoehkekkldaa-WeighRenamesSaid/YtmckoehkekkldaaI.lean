/- Validate of the program: a weighing. -/
import Derived.Test.YtmckoehkekkldaaH
namespace Go.Proofs.Ytmckoehkekkldaa
open Go.RowKit

theorem any_no {r l : List Int} (h : ∀ (j : Nat) (u : Int), l[j]? = some u → hasB r u = false) : l.any (hasB r) = false := by
  rw [List.any_eq_false]
  intro x hx
  obtain ⟨j, hj⟩ := List.mem_iff_getElem?.1 hx
  rw [h j x hj]
  simp
theorem any_yes {r l : List Int} {k : Nat} {x : Int} (hg : l[k]? = some x) (h : hasB r x = true) : l.any (hasB r) = true := List.any_eq_true.2 ⟨x, List.mem_of_getElem? hg, h⟩

set_option maxHeartbeats 1000000 in
theorem onRight_any (b : Nat) (B : Option Addr) (m d : Nat) (r : List Int) (x : Int) (w : World) (hc : w.cell? ⟨b, 1, none⟩ = some (.slice B m d)) (hR : Ints w B r) (hm : r.length = m) (hmax : m ≤ maxLen) :
    Calls Try.prog 111 #[.int .i64 x, .pointer (some ⟨b, 0, none⟩)] w fun e w' => e = .returned (.bool (hasB r x)) ∧ w = w' := by
  go_enter Try.func111, Try.ntmps111
  go_wp2_with fail
  refine (contains_any B m d r x _ hR hm hmax).mono ?_
  rintro e w1 ⟨rfl, rfl⟩
  go_wp2
  go_ret
  exact ⟨rfl, rfl⟩
set_option maxRecDepth 100000 in
set_option maxHeartbeats 1000000 in
theorem indexFunc_any (A : Option Addr) (n c b : Nat) (l : List Int) (B : Option Addr) (m d : Nat) (r : List Int) (w : World) (hA : Ints w A l) (hn : l.length = n) (hmaxn : n ≤ maxLen) (hc : w.cell? ⟨b, 1, none⟩ = some (.slice B m d)) (hR : Ints w B r) (hm : r.length = m) (hmax : m ≤ maxLen) :
    Calls Try.prog 119 #[.slice A n c, .func (Fn.func 111) #[] #[.pointer (some ⟨b, 0, none⟩)]] w fun e w' => (∃ i : Int, e = .returned (.int .i64 i) ∧ decide (i ≥ 0) = l.any (hasB r)) ∧ w = w' := by
  have Hn := Lib.hid hn
  have hni : (n : Int) ≤ 9223372036854775807 := by unfold maxLen at hmaxn; omega
  clear hn
  go_enter Try.func119, Try.ntmps119
  go_wp2
  go_loop [8] (fun i => ∃ k : Nat, k ≤ n ∧ i = .int .i64 k ∧ ∀ (j : Nat) (u : Int), j < k → l[j]? = some u → hasB r u = false) (fun i => n - (intOf i).toNat)
  case atStart => exact ⟨0, Nat.zero_le _, rfl, fun j u hj => by omega⟩
  case round =>
    obtain ⟨k, hk, rfl, hz⟩ := hrel
    have HZ := Lib.hid hz
    clear hz
    by_cases hlt : k < n
    · have hki : (k : Int) < (n : Int) := by omega
      obtain ⟨b', o, x, rfl, hbl, hg, hc1⟩ := hA.at_ (k := k) (by rw [Hn.out]; exact hlt)
      have HG := Lib.hid hg
      clear hg
      go_wp2_with fail
      refine (onRight_any b B m d r x _ hc hR hm hmax).mono ?_
      rintro e w1 ⟨rfl, rfl⟩
      cases hq : hasB r x
      · have HQ := Lib.hid hq
        clear hq
        go_wp2
        go_round
        case rel => exact ⟨k + 1, by omega, by go_num, fun j u hj hu => by
          rcases (by omega : j < k ∨ j = k) with h | rfl
          · exact HZ.out j u h hu
          · rw [HG.out] at hu; injection hu with hu; subst hu; exact HQ.out⟩
        case measure => simp [intOf]; omega
      · have HF := Lib.hid (any_yes HG.out hq)
        clear hq
        go_wp2
        go_ret
        exact ⟨⟨k, rfl, by rw [HF.out]; simp⟩, rfl⟩
    · obtain rfl : k = n := by omega
      have HF := Lib.hid (any_no (r := r) (l := l) fun j u hu => HZ.out j u (by rw [← Hn.out]; exact (List.getElem?_eq_some_iff.1 hu).1) hu)
      go_wp2
      go_ret
      exact ⟨⟨-1, rfl, by rw [HF.out]; decide⟩, rfl⟩
set_option maxHeartbeats 1000000 in
theorem containsFunc_any (A : Option Addr) (n c b : Nat) (l : List Int) (B : Option Addr) (m d : Nat) (r : List Int) (w : World) (hA : Ints w A l) (hn : l.length = n) (hmaxn : n ≤ maxLen) (hc : w.cell? ⟨b, 1, none⟩ = some (.slice B m d)) (hR : Ints w B r) (hm : r.length = m) (hmax : m ≤ maxLen) :
    Calls Try.prog 113 #[.slice A n c, .func (Fn.func 111) #[] #[.pointer (some ⟨b, 0, none⟩)]] w fun e w' => e = .returned (.bool (l.any (hasB r))) ∧ w = w' := by
  go_enter Try.func113, Try.ntmps113
  go_wp2_with fail
  refine (indexFunc_any A n c b l B m d r _ hA hn hmaxn hc hR hm hmax).mono ?_
  rintro e w1 ⟨⟨i, rfl, hi⟩, rfl⟩
  have HI := Lib.hid hi
  clear hi
  go_wp2
  go_ret
  exact ⟨ret_bool HI.out, rfl⟩

theorem box_sl {w0 w' : World} {A : Option Addr} {n c : Nat} {B : Option Addr} {m d : Nat} {ty : TypeId} (h : Bel (w0.alloc (.cells #[.slice A n c, .slice B m d] ty)) w') :
    w'.cell? ⟨w0.heap.size, 0, none⟩ = some (.slice A n c) ∧ w'.cell? ⟨w0.heap.size, 1, none⟩ = some (.slice B m d) := by
  constructor <;> (rw [h.use.1 _ _ (by simp)]; simp)
set_option maxRecDepth 100000 in
set_option maxHeartbeats 1000000 in
theorem validateWeighing_any (n : Int) (A : Option Addr) (k c : Nat) (l : List Int) (B : Option Addr) (m d : Nat) (r : List Int) (w : World) (hA : Ints w A l) (hk : l.length = k) (hmk : k ≤ maxLen) (hB : Ints w B r) (hm : r.length = m) (hmm : m ≤ maxLen) :
    Calls Try.prog 82 #[.int .i64 n, .agg #[.slice A k c, .slice B m d]] w fun e w' => e = .returned (.int .i64 (errW n (l, r))) ∧ Bel w w' := by
  have Hk := Lib.hid hk; have Hm := Lib.hid hm
  clear hk hm
  have h63 : (k : Int) ≤ 9223372036854775807 ∧ (m : Int) ≤ 9223372036854775807 := by unfold maxLen at hmk hmm; omega
  obtain ⟨h63, h64⟩ := h63
  have HE : Hid (errW n (l, r) = if (setB n l && setB n r) = true then (if l.any (hasB r) = true then 6 else if l.length = r.length then 0 else 5) else 1) := rfl
  obtain ⟨c0, c1⟩ := box_sl (w0 := w) (Bel.refl (w.alloc (.cells #[.slice A k c, .slice B m d] 50)))
  have hA' := hA.bel ((Bel.refl w).alloc (.cells #[.slice A k c, .slice B m d] 50))
  have hB' := hB.bel ((Bel.refl w).alloc (.cells #[.slice A k c, .slice B m d] 50))
  cases h1 : setB n l
  · rw [h1, Bool.false_and, if_neg (by decide)] at HE
    go_enter Try.func82, Try.ntmps82
    go_wp2_with (go_at_call 106; refine (isSet_any A k c l n _ hA' Hk.out hmk).mono ?_; rintro e w1 ⟨rfl, rfl⟩; rw [h1])
    go_ret
    exact ⟨ret_int HE.out.symm, by (repeat (first | exact Bel.refl _ | assumption | refine Bel.drew ?_ | refine Bel.drewN ?_ _ | refine Bel.alloc ?_ _ | refine Bel.setCell ?_ (by first | omega | (simp; done) | (simp; omega) | (simp at *; omega)) _ | refine Bel.trans ?_ (by assumption)))⟩
  · rw [h1] at HE
    cases h2 : setB n r
    · rw [h2, Bool.true_and, if_neg (by decide)] at HE
      go_enter Try.func82, Try.ntmps82
      go_wp2_with (first | (go_at_call_of 106 (Value.slice A k c); refine (isSet_any A k c l n _ hA' Hk.out hmk).mono ?_; rintro e w1 ⟨rfl, rfl⟩; rw [h1]) | (go_at_call_of 106 (Value.slice B m d); refine (isSet_any B m d r n _ hB' Hm.out hmm).mono ?_; rintro e w1 ⟨rfl, rfl⟩; rw [h2]))
      go_ret
      exact ⟨ret_int HE.out.symm, by (repeat (first | exact Bel.refl _ | assumption | refine Bel.drew ?_ | refine Bel.drewN ?_ _ | refine Bel.alloc ?_ _ | refine Bel.setCell ?_ (by first | omega | (simp; done) | (simp; omega) | (simp at *; omega)) _ | refine Bel.trans ?_ (by assumption)))⟩
    · rw [h2, Bool.true_and, if_pos rfl] at HE
      go_enter Try.func82, Try.ntmps82
      go_wp2_with (first | (go_at_call_of 106 (Value.slice A k c); refine (isSet_any A k c l n _ hA' Hk.out hmk).mono ?_; rintro e w1 ⟨rfl, rfl⟩; rw [h1]) | (go_at_call_of 106 (Value.slice B m d); refine (isSet_any B m d r n _ hB' Hm.out hmm).mono ?_; rintro e w1 ⟨rfl, rfl⟩; rw [h2]) | fail)
      refine (containsFunc_any A k c _ l B m d r _ hA' Hk.out hmk c1 hB' Hm.out hmm).mono ?_
      rintro e w1 ⟨rfl, rfl⟩
      cases h3 : l.any (hasB r)
      · rw [h3, if_neg (by decide), Hk.out, Hm.out] at HE
        by_cases h4 : k = m
        · subst h4
          rw [if_pos rfl] at HE
          go_wp2
          go_ret
          exact ⟨ret_int HE.out.symm, by (repeat (first | exact Bel.refl _ | assumption | refine Bel.drew ?_ | refine Bel.drewN ?_ _ | refine Bel.alloc ?_ _ | refine Bel.setCell ?_ (by first | omega | (simp; done) | (simp; omega) | (simp at *; omega)) _ | refine Bel.trans ?_ (by assumption)))⟩
        · have h4' : ¬ (k : Int) = (m : Int) := by omega
          rw [if_neg h4] at HE
          go_wp2
          go_ret
          exact ⟨ret_int HE.out.symm, by (repeat (first | exact Bel.refl _ | assumption | refine Bel.drew ?_ | refine Bel.drewN ?_ _ | refine Bel.alloc ?_ _ | refine Bel.setCell ?_ (by first | omega | (simp; done) | (simp; omega) | (simp at *; omega)) _ | refine Bel.trans ?_ (by assumption)))⟩
      · rw [h3, if_pos rfl] at HE
        go_wp2
        go_ret
        exact ⟨ret_int HE.out.symm, by (repeat (first | exact Bel.refl _ | assumption | refine Bel.drew ?_ | refine Bel.drewN ?_ _ | refine Bel.alloc ?_ _ | refine Bel.setCell ?_ (by first | omega | (simp; done) | (simp; omega) | (simp at *; omega)) _ | refine Bel.trans ?_ (by assumption)))⟩
end Go.Proofs.Ytmckoehkekkldaa
