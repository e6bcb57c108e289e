/- Equal tables; tables of its own as lists; Long, told what it says. -/
import Derived.Test.YtahkihifgafbnaaYI
import Derived.Test.YtahkihifgafbnaaYJ
import Derived.Test.YtahkihifgafbnaaXB
namespace Go.Proofs.Ytahkihifgafbnaa
open Go.RowKit

theorem SqG.ownT {base n : Nat} {w : World} {v : Value} {T : List (List Int)} (h : SqG base w v n n (fun a b => ent T b a)) (h7 : n ≤ 7) : OwnT base w v (backL T n) := by
  obtain ⟨bs, cs, h⟩ := h
  refine h.tab (backL_len T n) fun i r hi => ?_
  obtain ⟨hin, rfl⟩ := backL_at hi
  refine ⟨by simp, by unfold maxLen; simp <;> omega, fun j x hj => ?_⟩
  simp only [List.getElem?_map, Option.map_eq_some_iff] at hj
  obtain ⟨q, hq, rfl⟩ := hj
  have hjl := (List.getElem?_eq_some_iff.1 hq).1
  rw [List.length_range] at hjl
  rw [List.getElem?_range hjl] at hq
  injection hq with hq
  rw [hq]
theorem copG_ownT {base n : Nat} {w : World} {v : Value} {T : List (List Int)} {bs cs : Nat → Nat} (h : Grid base w v n bs (lenT T) cs (ent T)) (hn : T.length = n) (hr : ∀ r ∈ T, r.length ≤ 100) : OwnT base w v T := by
  refine h.tab hn fun i r hi => ⟨by unfold lenT; rw [hi]; rfl, by have := hr r (List.mem_of_getElem? hi); unfold maxLen; omega, fun j x hj => ?_⟩
  unfold ent
  rw [hi]
  simp [hj]
set_option maxRecDepth 100000 in
set_option maxHeartbeats 1000000 in
theorem sameTables_any (lo lo' : Nat) (A B : Option Addr) (n c m d : Nat) (T : List (List Int)) (w : World) (hA : Tab lo w A T) (hB : Tab lo' w B T) (hn : T.length = n) (hm : T.length = m) (hmax : n ≤ maxLen) :
    Calls Try.prog 54 #[.slice A n c, .slice B m d] w fun e w' => e = .returned (.bool true) ∧ Bel w w' := by
  obtain rfl : n = m := by omega
  have Hn := Lib.hid hn
  have h63 : (n : Int) ≤ 9223372036854775807 := by unfold maxLen at hmax; omega
  clear hn hm hmax
  go_enter Try.func54, Try.ntmps54
  go_wp2
  go_loopw [5] (fun i wr => ∃ k : Nat, k ≤ n ∧ i = .int .i64 k ∧ Bel w wr) (fun i _ => n - (intOf i).toNat)
  case atStart => exact ⟨0, Nat.zero_le _, rfl, Bel.refl _⟩
  case round =>
    obtain ⟨k, hk, rfl, hb⟩ := hrel
    by_cases hlt : k < n
    · obtain ⟨b, o, ns, A1, n1, c1, rfl, hbl, hg, q1, hI, hl1, hx1⟩ := (hA.bel hb).at_ (k := k) (by rw [Hn.out]; exact hlt)
      obtain ⟨b', o', ns', A2, n2, c2, rfl, hbl', hg', q2, hJ, hl2, hx2⟩ := (hB.bel hb).at_ (k := k) (by rw [Hn.out]; exact hlt)
      rw [hg] at hg'
      injection hg' with hg'
      subst hg'
      have HL1 := Lib.hid hl1; have HL2 := Lib.hid hl2
      have hkn : (k : Int) < (n : Int) := by omega
      have hk0 : (0 : Int) ≤ (k : Int) := by omega
      clear hg hl1 hl2
      go_wp2
      go_region_with (first | (go_at_call 43; refine (sameInts_any A1 A2 n1 c1 n2 c2 ns _ (hI.bel (by (repeat (first | exact Bel.refl _ | assumption | refine Bel.drew ?_ | refine Bel.drewN ?_ _ | refine Bel.alloc ?_ _ | refine Bel.setCell ?_ (by first | omega | (simp; done) | (simp; omega) | (simp at *; omega)) _ | refine Bel.trans ?_ (by assumption))))) (hJ.bel (by (repeat (first | exact Bel.refl _ | assumption | refine Bel.drew ?_ | refine Bel.drewN ?_ _ | refine Bel.alloc ?_ _ | refine Bel.setCell ?_ (by first | omega | (simp; done) | (simp; omega) | (simp at *; omega)) _ | refine Bel.trans ?_ (by assumption))))) HL1.out HL2.out hx1).mono ?_; rintro e w1 ⟨rfl, hb1⟩))
      all_goals
        go_wp2
        go_roundw
        case rel => exact ⟨k + 1, by omega, by go_num, by (repeat (first | exact Bel.refl _ | assumption | refine Bel.drew ?_ | refine Bel.drewN ?_ _ | refine Bel.alloc ?_ _ | refine Bel.setCell ?_ (by first | omega | (simp; done) | (simp; omega) | (simp at *; omega)) _ | refine Bel.trans ?_ (by assumption)))⟩
        case measure => simp [intOf]; omega
    · obtain rfl : k = n := by omega
      go_wp2
      go_ret
      exact ⟨rfl, hb⟩
def LongV (T : List (List Int)) (n : Nat) (e : Ending) : Prop := ∃ b : Bool, e = .returned (.bool b) ∧ (b = false → n ≤ 40 ∧ ∀ r ∈ T, r.length ≤ 40)
set_option maxRecDepth 100000 in
set_option maxHeartbeats 1000000 in
/-- Long, and what it says of tables that are not. -/
theorem long_small (lo : Nat) (A : Option Addr) (n c : Nat) (T : List (List Int)) (w : World) (hR : Tab lo w A T) (hn : T.length = n) (hmax : n ≤ maxLen) :
    Calls Try.prog 35 #[.slice A n c] w fun e w' => LongV T n e ∧ w = w' := by
  have Hn := Lib.hid hn
  have h63 : (n : Int) ≤ 9223372036854775807 := by unfold maxLen at hmax; omega
  clear hn hmax
  go_enter Try.func35, Try.ntmps35
  go_wp2
  go_loop [3] (fun i => ∃ k : Nat, k ≤ n ∧ i = .int .i64 k ∧ ∀ (j : Nat) r, j < k → T[j]? = some r → r.length ≤ 40) (fun i => n - (intOf i).toNat)
  case atStart => exact ⟨0, Nat.zero_le _, rfl, fun j r h => by omega⟩
  case round =>
    obtain ⟨k, hk, rfl, hr⟩ := hrel
    have HR := Lib.hid hr
    clear hr
    by_cases hlt : k < n
    · obtain ⟨b, o, ns, A1, n1, c1, rfl, hbl, hg, q1, hI, hl1, hx1⟩ := hR.at_ (k := k) (by rw [Hn.out]; exact hlt)
      have hki : (k : Int) < (n : Int) := by omega
      have hk0 : (0 : Int) ≤ (k : Int) := by omega
      have HG := Lib.hid hg; have HL := Lib.hid hl1
      clear hg hl1 hx1
      go_wp2_with fail
      refine (many_any A1 n1 c1 _).mono ?_
      rintro e w1 ⟨rfl, rfl⟩
      cases hd : decide (40 < n1)
      · have HD := Lib.hid (show n1 ≤ 40 by simpa using hd)
        clear hd
        go_wp2
        go_round
        case rel => exact ⟨k + 1, by omega, by go_num, fun j r hj hr => by
          by_cases e : j = k
          · subst e
            have := HG.out
            rw [hr] at this
            injection this with this
            rw [this, HL.out]
            exact HD.out
          · exact HR.out j r (by omega) hr⟩
        case measure => simp [intOf]; omega
      · clear hd
        go_wp2
        go_ret
        exact ⟨⟨_, rfl, fun h => by cases h⟩, rfl⟩
    · obtain rfl : n = k := by omega
      by_cases h40 : 40 < (n : Int)
      · go_wp2
        go_ret
        exact ⟨⟨_, rfl, fun h => by cases h⟩, rfl⟩
      · have h40' : (n : Int) ≤ 40 := by omega
        go_wp2
        go_ret
        exact ⟨⟨_, rfl, fun _ => ⟨by omega, fun r hr => by
          obtain ⟨j, hj⟩ := List.getElem?_of_mem hr
          exact HR.out j r (by have := (List.getElem?_eq_some_iff.1 hj).1; rw [Hn.out] at this; exact this) hj⟩⟩, rfl⟩
end Go.Proofs.Ytahkihifgafbnaa
