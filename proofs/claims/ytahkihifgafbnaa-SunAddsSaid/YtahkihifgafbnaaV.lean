/- Sum, many, Long; the document's Wins. -/
import Derived.Test.YtahkihifgafbnaaU
namespace Go.Proofs.Ytahkihifgafbnaa
open Go.RowKit

attribute [local go_sem] Oper.semAt_some

def sumI (l : List Int) : Int := l.foldl (· + ·) 0
theorem sumI_snoc (l : List Int) (x : Int) : sumI (l ++ [x]) = sumI l + x := by simp [sumI]
theorem sumI_take {l : List Int} (h : ∀ x ∈ l, x = 0 ∨ x = 1) : ∀ k, k ≤ l.length → 0 ≤ sumI (l.take k) ∧ sumI (l.take k) ≤ k
  | 0, _ => by simp [sumI]
  | k + 1, hk => by
    have hg : l[k]? = some l[k] := List.getElem?_eq_getElem (by omega)
    have ih := sumI_take h k (by omega)
    have hx := h _ (List.mem_of_getElem? hg)
    rw [take_at hg, sumI_snoc]
    omega

set_option maxHeartbeats 1000000 in
theorem sum_any (A : Option Addr) (n c : Nat) (l : List Int) (w : World) (hR : Ints w A l) (hn : l.length = n) (h7 : n ≤ 100) (h : ∀ x ∈ l, x = 0 ∨ x = 1) :
    Calls Try.prog 78 #[.slice A n c] w fun e w' => e = .returned (.int .i64 (sumI l)) ∧ w = w' := by
  have Hn := Lib.hid hn; have HA := Lib.hid h
  clear hn h
  go_enter Try.func78, Try.ntmps78
  go_wp2
  go_loop [3, 4] (fun v i => ∃ k : Nat, k ≤ n ∧ i = .int .i64 k ∧ v = .int .i64 (sumI (l.take k))) (fun _ i => n - (intOf i).toNat)
  case atStart => exact ⟨0, Nat.zero_le _, rfl, by simp [sumI]⟩
  case round =>
    obtain ⟨k, hk, rfl, rfl⟩ := hrel
    have hb := sumI_take HA.out k (by rw [Hn.out]; exact hk)
    by_cases hlt : k < n
    · obtain ⟨b, o, x, rfl, hbl, hg, hc⟩ := hR.at_ (k := k) (by rw [Hn.out]; exact hlt)
      have hkn : (k : Int) < (n : Int) := by omega
      have hx := HA.out x (List.mem_of_getElem? hg)
      have HS := Lib.hid (show sumI (l.take (k + 1)) = sumI (l.take k) + x by rw [take_at hg, sumI_snoc])
      obtain ⟨s, hs⟩ : ∃ s, s = sumI (l.take k) := ⟨_, rfl⟩
      rw [← hs] at hb ⊢
      have HSS := Lib.hid hs
      clear hs hg
      have hx0 : 0 ≤ x ∧ x ≤ 1 := by omega
      clear hx
      go_wp2
      go_round
      case rel => exact ⟨k + 1, by omega, by go_num, by rw [HS.out, ← HSS.out]⟩
      case measure => simp [intOf]; omega
    · obtain rfl : n = k := by omega
      have HT := Lib.hid (show sumI (l.take n) = sumI l by rw [List.take_of_length_le (by rw [Hn.out]; omega)])
      go_wp2
      go_ret
      exact ⟨by rw [← HT.out]; rfl, rfl⟩
theorem many_any (A : Option Addr) (n c : Nat) (w : World) : Calls Try.prog 44 #[.slice A n c] w fun e w' => e = .returned (.bool (decide (40 < n))) ∧ w = w' := by
  by_cases h : 40 < n
  · have h2 : 40 < (n : Int) := by omega
    have HF := Lib.hid (decide_eq_true h)
    rw [HF.out]
    clear h
    go_enter Try.func44, Try.ntmps44
    go_wp2
    go_ret
    exact ⟨rfl, rfl⟩
  · have h2 : (n : Int) ≤ 40 := by omega
    have HF := Lib.hid (decide_eq_false h)
    rw [HF.out]
    clear h
    go_enter Try.func44, Try.ntmps44
    go_wp2
    go_ret
    exact ⟨ret_bool (by simpa using h2), rfl⟩
theorem rowsB_01 {T : List (List Int)} {n : Nat} (h : rowsB T n = true) {k : Nat} {r : List Int} (hg : T[k]? = some r) : r.length = n ∧ ∀ x ∈ r, x = 0 ∨ x = 1 := by
  have := List.all_eq_true.1 h r (List.mem_of_getElem? hg)
  simp only [rowB, Bool.and_eq_true, decide_eq_true_eq] at this
  refine ⟨this.2, fun x hx => ?_⟩
  have := List.all_eq_true.1 this.1 x hx
  simpa using this
set_option maxRecDepth 100000 in
set_option maxHeartbeats 2000000 in
/-- Wins of the document: the sums of the rows. -/
theorem rwins_ok (lo : Nat) (A : Option Addr) (n c : Nat) (T : List (List Int)) (w : World) (hR : Tab lo w A T) (hn : T.length = n) (hE : errT T = 0) :
    Calls Try.prog 37 #[.slice A n c] w fun e w' => ∃ v, e = .returned (.tuple #[v, .int .i64 0]) ∧ Bel w w' ∧ ∃ base, w.heap.size ≤ base ∧ Own1 3 base w' v (T.map sumI) := by
  obtain ⟨⟨h1, h7⟩, hrw, -⟩ := errT_zero hE
  rw [hn] at h1 h7 hrw
  obtain ⟨i0, hi, hz0, hz1, hz2⟩ := info_parts info1I
  have HE := Lib.hid hE; have Hn := Lib.hid hn; have HRW := Lib.hid hrw
  clear hE hn hrw
  go_enter Try.func37, Try.ntmps37
  go_wp2_with fail
  refine (rvalidate_any lo A n c T _ hR Hn.out).mono ?_
  rintro e w1 ⟨rfl, hb1⟩
  rw [HE.out]
  have hws : w.heap.size ≤ w1.heap.size := hb1.size
  go_wp2
  go_loopw [5, 6] (fun v i wr => ∃ k : Nat, k ≤ n ∧ i = .int .i64 k ∧ Bel w1 wr ∧ Own1 3 w1.heap.size wr v ((T.take k).map sumI)) (fun _ i _ => n - (intOf i).toNat)
  case atStart => exact ⟨0, Nat.zero_le _, rfl, Bel.refl _, by simpa using Own1.nil _ _ _⟩
  case round =>
    obtain ⟨k, hk, rfl, hb, hO⟩ := hrel
    by_cases hlt : k < n
    · obtain ⟨b, o, r, A', n', c', rfl, hbl, hg, hcell, hI, hl, hmm⟩ := (hR.bel (hb1.trans hb)).at_ (k := k) (by rw [Hn.out]; exact hlt)
      obtain ⟨hrl, h01⟩ := rowsB_01 HRW.out hg
      have hkn : (k : Int) < (n : Int) := by omega
      have HS := Lib.hid (show (T.take (k + 1)).map sumI = (T.take k).map sumI ++ [sumI r] by rw [take_at hg, List.map_append]; rfl)
      have hlen : ((T.take k).map sumI).length = k := by rw [List.length_map, List.length_take, Hn.out]; omega
      obtain ⟨l, hll⟩ : ∃ l, l = (T.take k).map sumI := ⟨_, rfl⟩
      rw [← hll] at hO hlen
      have HL := Lib.hid hll; have HN' := Lib.hid hl; have H01 := Lib.hid h01; have HLEN := Lib.hid hlen
      have hbs := hb.size
      have hn7 : n' ≤ 100 := by omega
      have hX1 := Lib.hid (show l.length + 1 ≤ maxLen by unfold maxLen; omega)
      have hX2 := Lib.hid (show (l.length + 1) * 8 ≤ 140737488355328 by omega)
      clear hll hl h01 hg hrl hmm hlen
      have HQ : Hid ((T.take (k + 1)).map sumI = l ++ [sumI r]) := by show _ = _; rw [HS.out, HL.out]
      go_wp2_with fail
      refine (sum_any A' n' c' r _ hI HN'.out hn7 H01.out).mono ?_
      rintro e w' ⟨rfl, rfl⟩
      go_wp2_with (at_builtin; go_loud (refine wpList_append_lies _ rfl (.tmp 18) (.tmp 24) 26 rfl w1.heap.size 3 i0 _ 1 8 Try.underlying26 hi hz0 hz1 hz2 rfl (by decide) u5 l.length (l.map fun x => .int .i64 x) (by rfl) (hO.alloc _) ⟨wr.heap.size, 0, none⟩ 1 1 [.int .i64 (sumI r)] (by rfl) rfl (new1 wr _ _ _ rfl) (one1 _) (by omega) hX1.out hX2.out (Nat.le_trans hbs (by simp)) _ rfl ?_); intro g3 cap3 w3 hown3 hgr3 _ hlt3)
      obtain ⟨hB3, hs3, hblk⟩ := after_app hb (Nat.le_refl _) hO hbs hgr3
      have hO3 := Own1.snoc hown3
      clear hown3 hgr3 hlt3 hblk hO
      go_roundw
      case rel => exact ⟨k + 1, by omega, by go_num, hB3, by rw [HQ.out]; exact hO3⟩
      case measure => simp [intOf]; omega
    · obtain rfl : n = k := by omega
      have HT := Lib.hid (show T.take n = T from List.take_of_length_le (by rw [Hn.out]; omega))
      rw [HT.out] at hO
      go_wp2
      go_ret2
      exact ⟨u5, rfl, hb1.trans hb, _, hws, hO⟩
end Go.Proofs.Ytahkihifgafbnaa
