/- The document's renamed. -/
import Derived.Test.YtmckoehkekkldaaBB
namespace Go.Proofs.Ytmckoehkekkldaa
open Go.RowKit

theorem hitB_next {to l : List Int} {j : Nat} {u : Int} (h : l[j]? = some u) (y : Nat) : hitB to (l.take (j + 1)) y = (hitB to (l.take j) y || decide (toN to u.toNat = y)) := by
  unfold hitB
  rw [take_at h, List.any_append]
  simp
theorem hitB_once {n : Nat} {to l : List Int} (hR : Renum n to) (hl : setB (n : Int) l = true) {j : Nat} {u : Int} (h : l[j]? = some u) {y : Nat} (e : toN to u.toNat = y) : hitB to (l.take j) y = false := by
  unfold hitB
  rw [List.any_eq_false]
  intro v hv
  obtain ⟨i, hi⟩ := List.mem_iff_getElem?.1 hv
  rw [List.getElem?_take] at hi
  split at hi
  · rename_i hij
    have hju := (List.getElem?_eq_some_iff.1 h).1
    have hlt := setB_lt hl hij hju
    rw [getD_of h, getD_of hi] at hlt
    have h1 := setB_in hl (List.mem_of_getElem? hi)
    have h2 := setB_in hl (List.mem_of_getElem? h)
    intro h3
    have h3 := of_decide_eq_true h3
    have := hR.inj (x := v.toNat) (y := u.toNat) (by omega) (by omega) (by omega)
    omega
  · cases hi
/-- What renamed has found: all below y, and y, if one of the first j has that number. -/
def renTo (to l : List Int) (y j : Nat) : List Int := lotsF (hitB to l) y ++ if hitB to (l.take j) y = true then [(y : Int)] else []
theorem renTo_zero (to l : List Int) (y : Nat) : renTo to l y 0 = lotsF (hitB to l) y := by
  unfold renTo
  rw [if_neg (by simp [hitB]), List.append_nil]
theorem renTo_done (to l : List Int) (y : Nat) : renTo to l y l.length = lotsF (hitB to l) (y + 1) := by
  unfold renTo
  rw [List.take_length, lotsF_snoc]
  split
  · rfl
  · rw [List.append_nil]
theorem renTo_hit {n : Nat} {to l : List Int} (hR : Renum n to) (hl : setB (n : Int) l = true) {j : Nat} {u : Int} (h : l[j]? = some u) {y : Nat} (e : toN to u.toNat = y) : renTo to l y (j + 1) = renTo to l y j ++ [(y : Int)] := by
  unfold renTo
  rw [hitB_next h, hitB_once hR hl h e, decide_eq_true e]
  simp
theorem renTo_no {to l : List Int} {j : Nat} {u : Int} (h : l[j]? = some u) {y : Nat} (e : toN to u.toNat ≠ y) : renTo to l y (j + 1) = renTo to l y j := by
  unfold renTo
  rw [hitB_next h, decide_eq_false e, Bool.or_false]
theorem renTo_len (to l : List Int) (y j : Nat) : (renTo to l y j).length ≤ y + 1 := by
  unfold renTo
  have := lotsF_len (hitB to l) y
  rw [List.length_append]
  split
  · simp; omega
  · simp; omega
set_option maxRecDepth 100000 in
set_option maxHeartbeats 4000000 in
theorem renamed_any (A B : Option Addr) (m c n d : Nat) (l to : List Int) (w : World) (hI : Ints w A l) (hm : l.length = m) (hJ : Ints w B to) (hR : Renum n to) (hl : setB (n : Int) l = true) (hn13 : n ≤ 13) :
    Calls Try.prog 105 #[.slice A m c, .slice B n d] w fun e w' => ∃ v, e = .returned v ∧ Own1 3 w.heap.size w' v (imgL to n l) ∧ Bel w w' := by
  obtain ⟨i0, hi, hz0, hz1, hz2⟩ := info_parts info1I
  have hm13 : m ≤ 13 := by have := setB_len hl; omega
  have Hm := Lib.hid hm; have HR := Lib.hid hR; have HL := Lib.hid hl
  clear hm hR hl
  go_enter Try.func105, Try.ntmps105
  go_wp2
  go_loopw [5, 6, 7] (fun v i _ wr => ∃ y : Nat, y ≤ n ∧ i = .int .i64 y ∧ Bel w wr ∧ Own1 3 w.heap.size wr v (lotsF (hitB to l) y)) (fun _ i _ _ => n - (intOf i).toNat)
  case atStart => exact ⟨0, Nat.zero_le _, rfl, Bel.refl _, Own1.nil _ _ _⟩
  case round =>
    obtain ⟨y, hy, rfl, hb, hO⟩ := hrel
    by_cases hlt : y < n
    · have hyi : (y : Int) < (n : Int) := by omega
      rw [← renTo_zero] at hO
      go_wp2
      go_loopw [5, 7] (fun v i wr => ∃ j : Nat, j ≤ m ∧ i = .int .i64 j ∧ Bel w wr ∧ Own1 3 w.heap.size wr v (renTo to l y j)) (fun _ i _ => m - (intOf i).toNat)
      case atStart => exact ⟨0, Nat.zero_le _, rfl, hb, hO⟩
      case round =>
        clear hO hb
        obtain ⟨j, hj, rfl, hb, hO⟩ := hrel
        by_cases hjl : j < m
        · obtain ⟨b, o, u, rfl, hbl, hg, hc1⟩ := (hI.bel hb).at_ (k := j) (by rw [Hm.out]; exact hjl)
          have hur := setB_in HL.out (List.mem_of_getElem? hg)
          obtain ⟨un, rfl⟩ : ∃ un : Nat, u = (un : Int) := ⟨u.toNat, by omega⟩
          have hun : un < n := by omega
          obtain ⟨b2, o2, z, rfl, hbl2, hg2, hc2⟩ := (hJ.bel hb).at_ (k := un) (by rw [HR.out.len]; exact hun)
          have hz := (HR.out.at_ hun).1
          rw [hg2] at hz
          have hze : z = (toN to un : Int) := Option.some.inj hz
          have hji : (j : Int) < (m : Int) := by omega
          have hj0 : (0 : Int) ≤ (j : Int) := by omega
          have hu0 : (0 : Int) ≤ (un : Int) := by omega
          have hui : (un : Int) < (n : Int) := by omega
          by_cases hq : toN to un = y
          · have hzy : (z == (y : Int)) = true := by rw [hze, hq]; simp
            have hhit := renTo_hit HR.out HL.out hg (y := y) (by simpa using hq)
            have hll := renTo_len to l y j
            obtain ⟨ll, hL⟩ : ∃ ll, ll = renTo to l y j := ⟨_, rfl⟩
            rw [← hL] at hO hhit hll
            have HH := Lib.hid hhit
            have hzv : z = (y : Int) := by rw [hze, hq]
            subst hzv
            have hX1 := Lib.hid (show ll.length + 1 ≤ maxLen by unfold maxLen; omega)
            have hX2 := Lib.hid (show (ll.length + 1) * 8 ≤ 140737488355328 by omega)
            have hbs := hb.size
            clear hhit hL hg hg2 hz hze hq hll hur
            go_wp2_with (at_builtin; go_loud (refine wpList_append_lies _ rfl (.tmp 29) (.tmp 31) 28 rfl w.heap.size 3 i0 _ 1 8 Try.underlying28 hi hz0 hz1 hz2 rfl (by decide) u5 ll.length (ll.map fun x => .int .i64 x) (by rfl) (World.ownsRow.alloc hO _) ⟨wr.heap.size, 0, none⟩ 1 1 [.int .i64 (y : Int)] (by rfl) rfl (new1 wr _ _ _ rfl) (one1 _) (by omega) hX1.out hX2.out (by simp <;> omega) _ rfl ?_); intro g3 cap3 w3 hown3 hgr3 hat3 hlt3)
            have hB3 := grown_own (w := w) (hb.alloc _) hO (Nat.le_refl _) hgr3
            have hO3 := Own1.snoc hown3
            rw [← HH.out] at hO3
            have HO3 := Lib.hid hO3
            clear hown3 hgr3 hat3 hlt3 hO hO3
            go_wp2
            go_roundw
            case rel => exact ⟨j + 1, by omega, by go_num, hB3, HO3.out⟩
            case measure => simp [intOf]; omega
          · have hzy : (z == (y : Int)) = false := by rw [hze]; simp; omega
            have HH := Lib.hid (renTo_no (to := to) hg (y := y) (by simpa using hq))
            clear hg hg2 hz hze hq hur
            go_wp2
            go_roundw
            case rel => exact ⟨j + 1, by omega, by go_num, hb, by rw [HH.out]; exact hO⟩
            case measure => simp [intOf]; omega
        · obtain rfl : m = j := by omega
          have HD := Lib.hid (renTo_done to l y)
          rw [Hm.out] at HD
          have hO' := hO
          rw [HD.out] at hO'
          have HO := Lib.hid hO'
          clear hO hO'
          go_wp2
          go_roundw
          case rel => exact ⟨y + 1, by omega, by go_num, hb, HO.out⟩
          case measure => simp [intOf]; omega
    · obtain rfl : n = y := by omega
      have HO : Hid (Own1 3 w.heap.size wr u5 (imgL to n l)) := hO
      clear hO
      go_wp2
      go_ret
      exact ⟨_, rfl, HO.out, hb⟩
end Go.Proofs.Ytmckoehkekkldaa
