/- Has; the most wins. -/
import Derived.Test.YtahkihifgafbnaaYB
namespace Go.Proofs.Ytahkihifgafbnaa
open Go.RowKit

theorem hasB_mem {ns : List Int} {v : Int} : hasB ns v = true ↔ v ∈ ns := by simp [hasB]
set_option maxRecDepth 100000 in
set_option maxHeartbeats 1000000 in
theorem rhas_any (A : Option Addr) (n c : Nat) (ns : List Int) (v : Int) (w : World) (hR : Ints w A ns) (hn : ns.length = n) (hmax : n ≤ maxLen) :
    Calls Try.prog 51 #[.slice A n c, .int .i64 v] w fun e w' => e = .returned (.bool (hasB ns v)) ∧ w = w' := by
  have Hn := Lib.hid hn
  have hm : (n : Int) ≤ 9223372036854775807 := by unfold maxLen at hmax; omega
  clear hn hmax
  go_enter Try.func51, Try.ntmps51
  go_wp2
  go_loop [5] (fun i => ∃ k : Nat, k ≤ n ∧ i = .int .i64 k ∧ ∀ (j : Nat) (u : Int), j < k → ns[j]? = some u → u ≠ v) (fun i => n - (intOf i).toNat)
  case atStart => exact ⟨0, Nat.zero_le _, rfl, fun j u hj => by omega⟩
  case round =>
    obtain ⟨k, hk, rfl, hb⟩ := hrel
    have HB := Lib.hid hb
    clear hb
    by_cases hlt : k < n
    · obtain ⟨b, o, x, rfl, hbl, hg, hc1⟩ := hR.at_ (k := k) (by rw [Hn.out]; exact hlt)
      have HG := Lib.hid hg
      clear hg
      by_cases hx : x = v
      · subst hx
        have HT := Lib.hid (hasB_mem.2 (List.mem_of_getElem? HG.out))
        go_wp2
        go_ret
        exact ⟨ret_bool HT.out.symm, rfl⟩
      · have hxv : (x == v) = false := by simpa using hx
        have HX := Lib.hid hx
        clear hx
        go_wp2
        go_round
        case rel => exact ⟨k + 1, by omega, by go_num, fun j u hj hu => by
          rcases (by omega : j < k ∨ j = k) with h | rfl
          · exact HB.out j u h hu
          · rw [HG.out] at hu; injection hu with hu; rw [← hu]; exact HX.out⟩
        case measure => simp [intOf]; omega
    · obtain rfl : k = n := by omega
      have HT : Hid (hasB ns v = false) := by
        show _ = _
        cases h : hasB ns v
        · rfl
        · obtain ⟨j, hj⟩ := List.mem_iff_getElem?.1 (hasB_mem.1 h)
          exact absurd rfl (HB.out j v (by rw [← Hn.out]; exact (List.getElem?_eq_some_iff.1 hj).1) hj)
      go_wp2
      go_ret
      exact ⟨ret_bool HT.out.symm, rfl⟩
/-- The most wins of the first k. -/
def mostTo (T : List (List Int)) (n : Nat) : Nat → Int
  | 0 => 0
  | k + 1 => if mostTo T n k < winN T n k then winN T n k else mostTo T n k
theorem mostTo_ge (T : List (List Int)) (n : Nat) : ∀ k x, x < k → winN T n x ≤ mostTo T n k
  | 0, x, h => by omega
  | k + 1, x, h => by
    rw [mostTo]
    by_cases e : x = k
    · subst e
      split <;> omega
    · have := mostTo_ge T n k x (by omega)
      split <;> omega
theorem mostTo_of (T : List (List Int)) (n : Nat) : ∀ k, mostTo T n k = 0 ∨ ∃ x, x < k ∧ mostTo T n k = winN T n x
  | 0 => .inl rfl
  | k + 1 => by
    rw [mostTo]
    split
    · exact .inr ⟨k, by omega, rfl⟩
    · rcases mostTo_of T n k with h | ⟨x, hx, h⟩
      · exact .inl h
      · exact .inr ⟨x, by omega, h⟩
theorem mostTo_bd (T : List (List Int)) (n k : Nat) : 0 ≤ mostTo T n k ∧ mostTo T n k ≤ n := by
  rcases mostTo_of T n k with h | ⟨x, _, h⟩
  · rw [h]
    omega
  · rw [h]
    exact winN_bd
theorem most_one {T : List (List Int)} {n : Nat} (h1 : 1 ≤ n) : ∃ u, u < n ∧ winN T n u = mostTo T n n := by
  rcases mostTo_of T n n with h | ⟨x, hx, h⟩
  · have h2 := mostTo_ge T n n 0 (by omega)
    have h3 := (winN_bd (T := T) (n := n) (s := 0)).1
    exact ⟨0, by omega, by omega⟩
  · exact ⟨x, hx, h.symm⟩
theorem most_facts {T : List (List Int)} {n : Nat} (h : Beats n (ent T)) (h1 : 1 ≤ n) :
    (kingsTo T n n).length ≠ 0 ∧ (kingsTo T n n).length ≠ 2 ∧ ((kingsTo T n n).length = 1 ↔ mostTo T n n = n - 1) ∧ ∀ x, x < n → winN T n x = mostTo T n n → hasB (kingsTo T n n) (x : Int) = true := by
  obtain ⟨u, hu, he⟩ := most_one (T := T) h1
  have hm := fun x (hx : x < n) => mostTo_ge T n n x hx
  obtain ⟨f1, f2, f3, f4⟩ := kings_facts h hu (fun x hx => by rw [he]; exact hm x hx)
  refine ⟨f1, f2, by rw [← he]; exact f4, fun x hx hxe => ?_⟩
  rw [has_king hx]
  exact (kings_facts h hx (fun y hy => by rw [hxe]; exact hm y hy)).2.2.1
end Go.Proofs.Ytahkihifgafbnaa
