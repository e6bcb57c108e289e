/- FromMarks of the marks of a right plan. -/
import Derived.Test.YtmckoehkekkldaaAM
namespace Go.Proofs.Ytmckoehkekkldaa
open Go.RowKit

/-- The marks, three numbers each. -/
def triM (P : List Wg) (n : Nat) : List M3 := (List.range n).map fun x : Nat => (markN P (x : Int) 0, markN P (x : Int) 1, markN P (x : Int) 2)
theorem triM_succ (P : List Wg) (n : Nat) : triM P (n + 1) = triM P n ++ [(markN P (n : Int) 0, markN P (n : Int) 1, markN P (n : Int) 2)] := by simp [triM, List.range_succ]
theorem triM_length (P : List Wg) (n : Nat) : (triM P n).length = n := by simp [triM]
theorem marksT_at (P : List Wg) {n x : Nat} (hx : x < n) : (marksT P n)[x]? = some (markL P (x : Int)) := by simp [marksT, hx]
theorem row_ok {P : List Wg} {n : Nat} {ns : List Int} (h : ns ∈ marksT P n) : ns.length = P.length ∧ sidesB ns = true := by
  obtain ⟨x, _, rfl⟩ := List.mem_map.1 h
  refine ⟨markL_length _ _, ?_⟩
  unfold sidesB
  rw [List.all_eq_true]
  intro v hv
  obtain ⟨p, _, rfl⟩ := List.mem_map.1 hv
  rcases sd_cases (x : Int) p with e | e | e <;> rw [e] <;> decide
theorem given_mark (P : List Wg) (x : Int) : givenF (markL P x) = markN P x := rfl
def OwnM (base : Nat) (w : World) (v : Value) (l : List M3) : Prop := w.ownsRow base 78 3 v l.length (cel3 l)
theorem OwnM.form {base : Nat} {w : World} {v : Value} {P : List Wg} {n : Nat} (h : OwnM base w v (triM P n)) (hn : 1 ≤ n) : ∃ g c, v = .slice (some ⟨g, 0, none⟩) n c ∧ MarksR w g n P := by
  have hl := triM_length P n
  rcases h.2 with ⟨rfl, h0⟩ | ⟨g, cap, cur, rfl, hb, hg, hn', hm, hs, ht⟩
  · omega
  · have hlt := (World.ownsRow.lt h g rfl).2
    have hc := World.ownsRow.cells (g := g) h rfl
    refine ⟨g, cap, by rw [hl], hlt, fun x hx => ?_⟩
    have hat : (triM P n)[x]? = some (markN P (x : Int) 0, markN P (x : Int) 1, markN P (x : Int) 2) := by simp [triM, hx]
    obtain ⟨c0, c1, c2⟩ := cel3_at (triM P n) x
    rw [hat] at c0 c1 c2
    have k0 := hc _ _ c0
    have k1 := hc _ _ c1
    have k2 := hc _ _ c2
    rw [Go.Addr.add_mid, Nat.zero_add] at k0 k1 k2
    exact ⟨k0, k1, k2⟩
theorem new3m (w : World) (a b c : Int) (ty : TypeId) (g : Nat) (hg : g = w.heap.size) : ∀ j u, [Value.int .i64 a, .int .i64 b, .int .i64 c][j]? = some u → (w.alloc (.cells #[.int .i64 a, .int .i64 b, .int .i64 c] ty)).cell? ((⟨g, 0, none⟩ : Addr).add j) = some u := by
  subst hg
  intro j u hj
  rw [Go.Addr.add_mid]
  match j, hj with
  | 0, hj => simpa using hj
  | 1, hj => simpa using hj
  | 2, hj => simpa using hj
theorem one3m (a b c : Int) : ∀ u ∈ [Value.int .i64 a, .int .i64 b, .int .i64 c], u.oneCell' = true := by
  intro u hu
  simp at hu
  rcases hu with rfl | rfl | rfl <;> rfl
attribute [local go_sem] run_eq3
set_option maxRecDepth 100000 in
set_option maxHeartbeats 4000000 in
theorem fromMarks_ok (lo n : Nat) (A : Option Addr) (c : Nat) (P : List Wg) (w : World) (hT : Tab lo w A (marksT P n)) (hG : Good n P) :
    Calls Try.prog 53 #[.slice A n c] w fun e w' => ∃ b, e = .returned (.tuple #[.slice (some ⟨b, 0, none⟩) P.length P.length, .int .i64 0]) ∧ Bel w w' ∧ Plan w.heap.size w' (some ⟨b, 0, none⟩) P := by
  obtain ⟨i0, hi, hz0, hz1, hz2⟩ := info_parts infoMark
  have hn13 := hG.le
  have hn1 := hG.pos
  obtain ⟨q, hq⟩ : ∃ q, q = P.length := ⟨_, rfl⟩
  have hq3 : q ≤ 3 := by rw [hq]; exact hG.few
  have HG := Lib.hid hG; have HQ := Lib.hid hq
  have HR := Lib.hid (fun ns (h : ns ∈ marksT P n) => row_ok h)
  have HLEN := Lib.hid (marksT_length P n)
  rw [← hq]
  obtain ⟨b0, o0, ns0, A0, n0, c0, rfl, hbl0, hg0, q0, hI0, hl0, hx0⟩ := hT.at_ (k := 0) (by rw [HLEN.out]; omega)
  rw [Nat.add_zero] at q0
  obtain rfl : n0 = q := by rw [← hl0, hq]; exact (HR.out ns0 (List.mem_of_getElem? hg0)).1
  have hd : decide (1 ≤ (n : Int) ∧ (n : Int) ≤ 13) = true := by simp; omega
  have hni : (0 : Int) < (n : Int) := by omega
  clear hG hq hg0 hl0 hx0
  go_enter Try.func53, Try.ntmps53
  go_wp2_with fail
  refine (areLots_any _ _).mono ?_
  rintro e w1 ⟨rfl, rfl⟩
  rw [hd]
  go_wp2_with fail
  refine (noLarge_any lo _ n c _ _ hT HLEN.out hn13 (fun ns h => by rw [(HR.out ns h).1, ← HQ.out]; exact hq3)).mono ?_
  rintro e w1 ⟨rfl, rfl⟩
  go_wp2_with fail
  refine (noNone_any lo w.heap.size n0 _ n c _ _ (hT.bel ((Bel.refl w).alloc _)) HLEN.out hn13 (by simp) hq3 (fun ns h => ⟨by rw [HQ.out]; exact (HR.out ns h).1, (HR.out ns h).2⟩)).mono ?_
  rintro e w1 ⟨rfl, hw1⟩
  subst hw1
  go_wp2
  go_loopw [7, 9, 29] (fun v _ i wr => ∃ x : Nat, x ≤ n ∧ i = .int .i64 x ∧ Bel (w.alloc (.cells #[.int .i64 (n0 : Int)] 3)) wr ∧ OwnM (w.heap.size + 1) wr v (triM P x)) (fun _ _ i _ => n - (intOf i).toNat)
  case atStart => exact ⟨0, Nat.zero_le _, rfl, Bel.refl _, World.ownsRow_nil _ _ _ _⟩
  case round =>
    obtain ⟨x, hx, rfl, hb, hO⟩ := hrel
    have hbw : Bel w wr := ((Bel.refl w).alloc _).trans hb
    have hsz := hb.size
    simp at hsz
    by_cases hlt : x < n
    · obtain ⟨b', o', ns, A1, n1, c1, hA, hbl, hg, q1', hI, hl1, hx1⟩ := hT.at_ (k := x) (by rw [HLEN.out]; exact hlt)
      obtain ⟨rfl, rfl⟩ : b0 = b' ∧ o0 = o' := by simpa using hA
      have hns := marksT_at P hlt
      rw [hg] at hns
      injection hns with hns
      subst hns
      obtain rfl : n0 = n1 := by rw [← hl1, HQ.out, markL_length]
      have q1 : wr.cell? ⟨b0, o0 + x, none⟩ = some (.slice A1 n0 c1) := by rw [hbw.use.1 _ _ hbl]; exact q1'
      have hlen := triM_length P x
      have hO1 : wr.ownsRow (w.heap.size + 1) 78 3 u7 x (cel3 (triM P x)) := by have := hO; unfold OwnM at this; rw [hlen] at this; exact this
      have hX1 := Lib.hid (show x + 1 ≤ maxLen by unfold maxLen; omega)
      have hX2 := Lib.hid (show (x + 1) * 24 ≤ 140737488355328 by omega)
      have hxi : (x : Int) < (n : Int) := by omega
      have HL1 := Lib.hid hl1
      clear hg q1' hl1 hA hx1
      go_wp2_with fail
      refine (markOf_any A1 n0 c1 _ _ (hI.bel hbw) HL1.out (by omega)).mono ?_
      rintro e w4 ⟨rfl, hb4⟩
      rw [given_mark]
      have hs4 := hb4.size
      go_wp2_with (at_builtin; go_loud (refine wpList_append_lies _ rfl (.tmp 33) (.tmp 36) 80 rfl (w.heap.size + 1) 78 i0 _ 3 24 Try.underlying80 hi hz0 hz1 hz2 rfl (by decide) u7 x (cel3 (triM P x)) (by rfl) ((ownsRow_bel hO1 hb4).alloc _) ⟨w4.heap.size, 0, none⟩ 1 1 [.int .i64 (markN P (x : Int) 0), .int .i64 (markN P (x : Int) 1), .int .i64 (markN P (x : Int) 2)] (by rfl) rfl (new3m _ _ _ _ _ _ rfl) (one3m _ _ _) (by omega) hX1.out hX2.out (by simp <;> omega) _ rfl ?_); intro g3 cap3 w3 hown3 hgr3 hat3 hlt3)
      have hB3 := grown_own (w := w.alloc (.cells #[.int .i64 (n0 : Int)] 3)) ((hb.trans hb4).alloc _) (ownsRow_bel hO1 hb4) (by simp) hgr3
      have hO3 : OwnM (w.heap.size + 1) w3 (.slice (some ⟨g3, 0, none⟩) (x + 1) cap3) (triM P (x + 1)) := by
        unfold OwnM
        rw [triM_length, triM_succ, cel3_append]
        exact hown3
      have HO3 := Lib.hid hO3
      clear hown3 hgr3 hat3 hlt3 hO hO1 hO3
      go_roundw
      case rel => exact ⟨x + 1, by omega, by go_num, hB3, HO3.out⟩
      case measure => simp [intOf]; omega
    · obtain rfl : x = n := by omega
      obtain ⟨g, cg, rfl, hM⟩ := hO.form hn1
      have hcell : ∀ w', Bel wr w' → w'.cell? ⟨w.heap.size, 0, none⟩ = some (.int .i64 (n0 : Int)) := fun w' h => by
        have := (hb.trans h).use.1 w.heap.size 0 (by simp)
        rw [this]
        simp
      have Hcell := Lib.hid hcell
      have hMb : ∀ {w'}, Bel wr w' → MarksR w' g x P := fun h => ⟨Nat.lt_of_lt_of_le hM.1 h.size, fun y hy => by
        obtain ⟨k0, k1, k2⟩ := hM.2 y hy
        exact ⟨by rw [h.use.1 _ _ hM.1]; exact k0, by rw [h.use.1 _ _ hM.1]; exact k1, by rw [h.use.1 _ _ hM.1]; exact k2⟩⟩
      have HMb := Lib.hid (fun w' (h : Bel wr w') => hMb h)
      clear hO hcell hMb
      go_wp2_with fail
      refine (sum_any g x cg P _ hM HG.out).mono ?_
      rintro e w4 ⟨rfl, hb4⟩
      go_wp2_with fail
      refine (blank_any _).mono ?_
      rintro e w5 ⟨rfl, hb5⟩
      have hb45 := hb4.trans hb5
      have hc5 := Hcell.out w5 hb45
      go_wp2_with fail
      refine (planOf_any g x n0 cg P _ (HMb.out _ hb45) HG.out HQ.out.symm).mono ?_
      rintro e w6 ⟨b, rfl, hb6, hP6⟩
      have HB := Lib.hid (hbw.trans (hb45.trans hb6))
      have HP := Lib.hid (hP6.low (lo' := w.heap.size) (hbw.trans hb45).size)
      clear hP6
      go_wp2
      exact bodyPost_ret (v := .tuple #[.slice (some ⟨b, 0, none⟩) n0 n0, .int .i64 0]) (by simp [results, Try.results53, go_sem]) rfl ⟨b, rfl, HB.out, HP.out⟩
end Go.Proofs.Ytmckoehkekkldaa
