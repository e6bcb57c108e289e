/- Slices of integers that read as lists: Contains, isSet. -/
import Derived.Test.YtmklpldmgmjlkaaJH
import Derived.Deep.QuietTactic
import Derived.BigQuiet
namespace Go.Proofs.Ytmklpldmgmjlkaa
open Go.RowKit

/-- The slice at A reads as the integers ns. -/
def Ints (w : World) (A : Option Addr) (ns : List Int) : Prop :=
  ns = [] ∨ ∃ b o, A = some ⟨b, o, none⟩ ∧ b < w.heap.size ∧ ∀ (j : Nat) (v : Int), ns[j]? = some v → w.cell? ⟨b, o + j, none⟩ = some (.int .i64 v)
theorem Ints.bel {w w' : World} {A : Option Addr} {ns : List Int} (h : Ints w A ns) (hb : Bel w w') : Ints w' A ns := by
  rcases h with h | ⟨b, o, rfl, hl, hc⟩
  · exact .inl h
  · refine .inr ⟨b, o, rfl, Nat.lt_of_lt_of_le hl hb.use.2.2, fun j v hj => ?_⟩
    rw [hb.use.1 _ _ hl]
    exact hc j v hj
theorem Ints.at_ {w : World} {A : Option Addr} {ns : List Int} (h : Ints w A ns) {k : Nat} (hk : k < ns.length) :
    ∃ b o v, A = some ⟨b, o, none⟩ ∧ b < w.heap.size ∧ ns[k]? = some v ∧ w.cell? ⟨b, o + k, none⟩ = some (.int .i64 v) := by
  rcases h with rfl | ⟨b, o, rfl, hl, hc⟩
  · simp at hk
  · have hg' : ns[k]? = some ns[k] := by rw [List.getElem?_eq_getElem hk]
    exact ⟨b, o, _, rfl, hl, hg', hc k _ hg'⟩
theorem Ints.none_nil {w : World} {ns : List Int} (h : Ints w none ns) : ns = [] := by
  rcases h with h | ⟨b, o, h, _⟩
  · exact h
  · cases h
theorem drop_at {α : Type} {l : List α} {k : Nat} {x : α} (h : l[k]? = some x) : l.drop k = x :: l.drop (k + 1) := by
  obtain ⟨hk, rfl⟩ := List.getElem?_eq_some_iff.1 h
  rw [List.drop_eq_getElem_cons hk]
theorem take_at {α : Type} {l : List α} {k : Nat} {x : α} (h : l[k]? = some x) : l.take (k + 1) = l.take k ++ [x] := by
  obtain ⟨hk, rfl⟩ := List.getElem?_eq_some_iff.1 h
  rw [List.take_succ_eq_append_getElem hk]
/-- Is the number on the list? -/
def hasB (ns : List Int) (v : Int) : Bool := ns.contains v
theorem hasB_iff {ns : List Int} {v : Int} : hasB ns v = true ↔ v ∈ ns := by simp [hasB]
theorem hasB_false {ns : List Int} {v : Int} (h : ∀ (j : Nat) (u : Int), ns[j]? = some u → u ≠ v) : hasB ns v = false := by
  rw [Bool.eq_false_iff]
  intro e
  obtain ⟨j, hj⟩ := List.mem_iff_getElem?.1 (hasB_iff.1 e)
  exact h j v hj rfl
def Found1 (ns : List Int) (v : Int) (w : World) (e : Ending) (w' : World) : Prop := (∃ r : Int, e = .returned (.int .i64 r) ∧ decide (0 ≤ r) = hasB ns v) ∧ w = w'
def Before (ns : List Int) (v : Int) (k : Nat) : Prop := ∀ (j : Nat) (u : Int), j < k → ns[j]? = some u → u ≠ v

set_option maxHeartbeats 400000 in
theorem index_any (A : Option Addr) (n c : Nat) (ns : List Int) (v : Int) (w : World) (hR : Ints w A ns) (hn : ns.length = n) (hmax : n ≤ maxLen) :
    Calls Try.prog 40 #[.slice A n c, .int .i64 v] w (Found1 ns v w) := by
  have Hn := Lib.hid hn
  have hm : (n : Int) ≤ 9223372036854775807 := by unfold maxLen at hmax; omega
  clear hn hmax
  go_enter Try.func40, Try.ntmps40
  go_wp2
  go_loop [8] (fun i => ∃ k : Nat, k ≤ n ∧ i = .int .i64 k ∧ Before ns v k) (fun i => n - (intOf i).toNat)
  case atStart => exact ⟨0, Nat.zero_le _, rfl, fun j u hj => by omega⟩
  case round =>
    obtain ⟨k, hk, rfl, hb⟩ := hrel
    have HB := Lib.hid hb
    clear hb
    by_cases hlt : k < n
    · obtain ⟨b, o, x, rfl, hbl, hg, hc1⟩ := hR.at_ (k := k) (by rw [Hn.out]; exact hlt)
      have HG := Lib.hid hg
      clear hg
      by_cases hx : x = v
      · subst hx
        go_wp2
        go_ret
        exact ⟨⟨k, rfl, by rw [hasB_iff.2 (List.mem_of_getElem? HG.out)]; simp⟩, rfl⟩
      · have hxv : (v == x) = false := by simpa using fun e : v = x => hx e.symm
        have HX := Lib.hid hx
        clear hx
        go_wp2
        go_round
        case rel => exact ⟨k + 1, by omega, by go_num, fun j u hj hu => by
          rcases (by omega : j < k ∨ j = k) with h | rfl
          · exact HB.out j u h hu
          · rw [HG.out] at hu; injection hu with hu; rw [← hu]; exact HX.out⟩
        case measure => simp [intOf]; omega
    · obtain rfl : k = n := by omega
      go_wp2
      go_ret
      exact ⟨⟨-1, rfl, by rw [hasB_false (fun j u hu => HB.out j u (by rw [← Hn.out]; exact (List.getElem?_eq_some_iff.1 hu).1) hu)]; decide⟩, rfl⟩
theorem contains_any (A : Option Addr) (n c : Nat) (ns : List Int) (v : Int) (w : World) (hR : Ints w A ns) (hn : ns.length = n) (hmax : n ≤ maxLen) :
    Calls Try.prog 36 #[.slice A n c, .int .i64 v] w fun e w' => e = .returned (.bool (hasB ns v)) ∧ w = w' := by
  go_enter Try.func36, Try.ntmps36
  go_wp2_with fail
  refine (index_any A n c ns v _ hR hn hmax).mono ?_
  rintro e w1 ⟨⟨r, rfl, hr⟩, rfl⟩
  have HR := Lib.hid hr
  clear hr
  go_wp2
  go_ret
  exact ⟨ret_bool HR.out, rfl⟩

/-- The numbers are strictly ascending behind 'last', below a number. -/
def scanI (last below : Int) : List Int → Bool
  | [] => true
  | x :: r => decide (last < x) && decide (x < below) && scanI x below r
theorem scanI_step {last below x : Int} {ns : List Int} {k : Nat} (hg : ns[k]? = some x) : scanI last below (ns.drop k) = (decide (last < x) && decide (x < below) && scanI x below (ns.drop (k + 1))) := by
  rw [drop_at hg]; rfl
def setB (ns : List Int) (below : Int) : Bool := scanI (-1) below ns

set_option maxHeartbeats 400000 in
theorem isSet_any (A : Option Addr) (n c : Nat) (ns : List Int) (g : Int) (w : World) (hR : Ints w A ns) (hn : ns.length = n) (hmax : n ≤ maxLen) :
    Calls Try.prog 35 #[.slice A n c, .int .i64 g] w fun e w' => e = .returned (.bool (setB ns g)) ∧ w = w' := by
  have Hn := Lib.hid hn
  have hm : (n : Int) ≤ 9223372036854775807 := by unfold maxLen at hmax; omega
  clear hn hmax
  go_enter Try.func35, Try.ntmps35
  go_wp2
  go_loop [5, 10] (fun l i => ∃ (k : Nat) (last : Int), k ≤ n ∧ i = .int .i64 k ∧ l = .int .i64 last ∧ scanI last g (ns.drop k) = setB ns g) (fun _ i => n - (intOf i).toNat)
  case atStart => exact ⟨0, -1, Nat.zero_le _, rfl, rfl, rfl⟩
  case round =>
    obtain ⟨k, last, hk, rfl, rfl, hs⟩ := hrel
    have HS := Lib.hid hs
    clear hs
    by_cases hlt : k < n
    · obtain ⟨b, o, x, rfl, hbl, hg, hc1⟩ := hR.at_ (k := k) (by rw [Hn.out]; exact hlt)
      have HG := Lib.hid (scanI_step (last := last) (below := g) hg)
      clear hg
      by_cases h1 : last < x
      · by_cases h2 : x < g
        · have hs2 : scanI x g (ns.drop (k + 1)) = setB ns g := by rw [← HS.out, HG.out, decide_eq_true h1, decide_eq_true h2]; rfl
          have HS2 := Lib.hid hs2
          clear hs2
          go_wp2
          go_round
          case rel => exact ⟨k + 1, x, by omega, by go_num, rfl, HS2.out⟩
          case measure => simp [intOf]; omega
        · have hs2 : setB ns g = false := by rw [← HS.out, HG.out, decide_eq_false h2]; simp
          have HS2 := Lib.hid hs2
          clear hs2
          go_wp2
          go_ret
          exact ⟨ret_bool HS2.out.symm, rfl⟩
      · have hs2 : setB ns g = false := by rw [← HS.out, HG.out, decide_eq_false h1]; simp
        have HS2 := Lib.hid hs2
        clear hs2
        go_wp2
        go_ret
        exact ⟨ret_bool HS2.out.symm, rfl⟩
    · obtain rfl : k = n := by omega
      have hs2 : setB ns g = true := by rw [← HS.out, List.drop_of_length_le (by rw [Hn.out]; omega)]; rfl
      have HS2 := Lib.hid hs2
      clear hs2
      go_wp2
      go_ret
      exact ⟨ret_bool HS2.out.symm, rfl⟩
end Go.Proofs.Ytmklpldmgmjlkaa

