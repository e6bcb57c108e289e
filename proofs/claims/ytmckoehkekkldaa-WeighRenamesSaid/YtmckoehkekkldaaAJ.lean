/- Marks of the document, Same for equal plans. -/
import Derived.Test.YtmckoehkekkldaaY
namespace Go.Proofs.Ytmckoehkekkldaa
open Go.RowKit

set_option maxRecDepth 100000 in
set_option maxHeartbeats 4000000 in
theorem rMarks_ok (lo n : Nat) (A : Option Addr) (m c : Nat) (P : List Wg) (w : World) (hR : Plan lo w A P) (hm : P.length = m) (hG : Good n P) :
    Calls Try.prog 50 #[.int .i64 (n : Int), .slice A m c] w fun e w' => ∃ A' c', e = .returned (.tuple #[.slice A' n c', .int .i64 0]) ∧ Bel w w' ∧ Tab w.heap.size w' A' (marksT P n) := by
  obtain ⟨i0, hi, hz0, hz1, hz2⟩ := info_parts info1S
  have Hm := Lib.hid hm; have HGo := Lib.hid hG; have HE := Lib.hid hG.err
  have hn13 := hG.le
  have hm3 : m ≤ 3 := by rw [← hm]; exact hG.few
  clear hm hG
  go_enter Try.func50, Try.ntmps50
  go_wp2_with (first | (go_at_call 44; refine (rValidate_any lo n A m c P _ (hR.bel (by (repeat (first | exact Bel.refl _ | assumption | refine Bel.drew ?_ | refine Bel.drewN ?_ _ | refine Bel.alloc ?_ _ | refine Bel.setCell ?_ (by first | omega | (simp; done) | (simp; omega) | (simp at *; omega)) _ | refine Bel.trans ?_ (by assumption))))) Hm.out).mono ?_; rintro e w1 ⟨rfl, hb1⟩; rw [HE.out]))
  have hs1 := hb1.size
  go_loopw [7, 8] (fun v i wr => ∃ k : Nat, k ≤ n ∧ i = .int .i64 k ∧ Bel w1 wr ∧ OwnT w1.heap.size wr v (marksT P k)) (fun _ i _ => n - (intOf i).toNat)
  case atStart => exact ⟨0, Nat.zero_le _, rfl, Bel.refl _, OwnT.nil _ _⟩
  case round =>
    obtain ⟨k, hk, rfl, hb, hO⟩ := hrel
    by_cases hlt : k < n
    · obtain ⟨vs, hO⟩ := hO
      have hlen := marksT_length P k
      have hO1 := hO.own
      rw [hlen] at hO1
      have hX1 := Lib.hid (show k + 1 ≤ maxLen by unfold maxLen; omega)
      have hX2 := Lib.hid (show (k + 1) * 24 ≤ 140737488355328 by omega)
      have hbase := hb.size
      have hki : (k : Int) < (n : Int) := by omega
      go_wp2_with fail
      refine (rMark_any lo n A m c P (k : Int) _ (hR.bel (hb1.trans hb)) Hm.out HGo.out).mono ?_
      rintro e w4 ⟨v4, rfl, hO4, hb4⟩
      obtain ⟨A1, n1, c1', rfl, hn1, hI1⟩ := hO4.form
      rw [markL_length, Hm.out] at hn1
      subst hn1
      have hf1 := fun b o (hA : A1 = some ⟨b, o, none⟩) => World.ownsRow.lt hO4 b (by rw [hA]; rfl)
      have hs4 := hb4.size
      clear hO4
      go_wp2_with (at_builtin; go_loud (refine wpList_append_lies _ rfl (.tmp 20) (.tmp 24) 33 rfl w1.heap.size 28 i0 _ 1 24 Try.underlying33 hi hz0 hz1 hz2 rfl (by decide) u7 k vs (by rfl) ((ownsRow_bel hO1 hb4).alloc _) ⟨w4.heap.size, 0, none⟩ 1 1 [.slice A1 n1 c1'] (by rfl) rfl (newS _ _ _ _ rfl) (oneS _ _ _) (by omega) hX1.out hX2.out (by simp <;> omega) _ rfl ?_); intro g3 cap3 w3 hown3 hgr3 hat3 hlt3)
      have hO3 := OwnTV.snoc (g := g3) ((hO.bel hb4).bel ((Bel.refl w4).alloc _)) (hI1.bel ((Bel.refl w4).alloc _)) (by rw [markL_length, Hm.out]) (by unfold maxLen; omega) (fun b o hA => ⟨by have := (hf1 b o hA).2; simp <;> omega, fun e => by have h1 := (World.ownsRow.lt hO1 b e).2; have h2 := (hf1 b o hA).1; omega, by have h2 := (hf1 b o hA).1; omega⟩) (by rw [hlen]; exact hown3) hgr3 (by simpa using hat3)
      have hB3 := grown_own (w := w1) ((hb.trans hb4).alloc _) hO1 (Nat.le_refl _) hgr3
      rw [hlen] at hO3
      have HS : Hid (marksT P (k + 1) = marksT P k ++ [markL P (k : Int)]) := marksT_succ P k
      clear hown3 hgr3 hat3 hlt3 hI1 hf1 hb4 hO hO1
      go_roundw
      case rel => exact ⟨k + 1, by omega, by go_num, hB3, by rw [HS.out]; exact hO3⟩
      case measure => simp [intOf]; omega
    · obtain rfl : k = n := by omega
      obtain ⟨A', n', c', rfl, hn', hI⟩ := hO.form
      rw [marksT_length] at hn'
      subst hn'
      clear hO
      have HI := Lib.hid (hI.low (lo' := w.heap.size) hs1)
      have HB := Lib.hid (hb1.trans hb)
      go_wp2
      exact bodyPost_ret (v := .tuple #[.slice A' n' c', .int .i64 0]) (by simp [results, Try.results50, go_sem]) rfl ⟨A', c', rfl, HB.out, HI.out⟩
set_option maxRecDepth 100000 in
set_option maxHeartbeats 1000000 in
theorem rMarks_err (lo : Nat) (n : Int) (A : Option Addr) (m c : Nat) (P : List Wg) (w : World) (hR : Plan lo w A P) (hm : P.length = m) (hE : errV n P ≠ 0) :
    Calls Try.prog 50 #[.int .i64 n, .slice A m c] w fun e w' => e = .returned (.tuple #[.slice none 0 0, .int .i64 (errV n P)]) ∧ Bel w w' := by
  have hE' : (errV n P != 0) = true := by simpa using hE
  generalize hv : errV n P = v at *
  have HV := Lib.hid hv
  clear hv
  go_enter Try.func50, Try.ntmps50
  go_wp2_with (go_at_call 44; refine (rValidate_any lo n A m c P _ hR hm).mono ?_; rintro e w1 ⟨rfl, hb1⟩; rw [HV.out])
  exact bodyPost_ret (v := .tuple #[.slice none 0 0, .int .i64 v]) (by simp [results, Try.results50, go_sem]) rfl ⟨rfl, by (repeat (first | exact Bel.refl _ | assumption | refine Bel.drew ?_ | refine Bel.drewN ?_ _ | refine Bel.alloc ?_ _ | refine Bel.setCell ?_ (by first | omega | (simp; done) | (simp; omega) | (simp at *; omega)) _ | refine Bel.trans ?_ (by assumption)))⟩
set_option maxRecDepth 100000 in
set_option maxHeartbeats 4000000 in
theorem same_any (lo lo' : Nat) (A B : Option Addr) (n c m d : Nat) (P : List Wg) (w : World) (hA : Plan lo w A P) (hB : Plan lo' w B P) (hn : P.length = n) (hm : P.length = m) (hmax : n ≤ maxLen) :
    Calls Try.prog 54 #[.slice A n c, .slice B m d] w fun e w' => e = .returned (.bool true) ∧ Bel w w' := by
  obtain rfl : n = m := by omega
  have Hn := Lib.hid hn
  have h63 : (n : Int) ≤ 9223372036854775807 := by unfold maxLen at hmax; omega
  clear hn hm hmax
  go_enter Try.func54, Try.ntmps54
  go_wp2
  go_loopw [5] (fun i wr => ∃ k : Nat, k ≤ n ∧ i = .int .i64 k ∧ Bel w wr) (fun i _ => n - (intOf i).toNat)
  case atStart => exact ⟨0, Nat.zero_le _, rfl, Bel.refl _⟩
  case round =>
    obtain ⟨k, hk, rfl, hb⟩ := hrel
    by_cases hlt : k < n
    · obtain ⟨b, o, l, r, A1, n1, c1, A2, n2, c2, rfl, hbl, hg, q1, q2, hI, hl1, hx1, hJ, hl2, hx2⟩ := hA.at_ (k := k) (by rw [Hn.out]; exact hlt)
      obtain ⟨b', o', l', r', B1, m1, d1, B2, m2, d2, rfl, hbl', hg', p1, p2, hI', hl1', hx1', hJ', hl2', hx2'⟩ := hB.at_ (k := k) (by rw [Hn.out]; exact hlt)
      rw [hg] at hg'
      injection hg' with hg'
      injection hg' with e1 e2
      subst e1 e2
      have HL1 := Lib.hid hl1; have HL2 := Lib.hid hl2; have HL3 := Lib.hid hl1'; have HL4 := Lib.hid hl2'
      have hkn : (k : Int) < (n : Int) := by omega
      have hk0 : (0 : Int) ≤ (k : Int) := by omega
      have held : ∀ w', Bel w w' → (w'.cell? ⟨b, o + k * 2, none⟩ = some (.slice A1 n1 c1) ∧ w'.cell? ⟨b, o + k * 2 + 1, none⟩ = some (.slice A2 n2 c2)) ∧ w'.cell? ⟨b', o' + k * 2, none⟩ = some (.slice B1 m1 d1) ∧ w'.cell? ⟨b', o' + k * 2 + 1, none⟩ = some (.slice B2 m2 d2) :=
        fun w' h => ⟨⟨by rw [h.use.1 _ _ hbl]; exact q1, by rw [h.use.1 _ _ hbl]; exact q2⟩, by rw [h.use.1 _ _ hbl']; exact p1, by rw [h.use.1 _ _ hbl']; exact p2⟩
      have Held := Lib.hid held
      clear hg held hl1 hl2 hl1' hl2' q1 q2 p1 p2
      obtain ⟨wo, hwo⟩ : ∃ wo : World, wo = wr := ⟨_, rfl⟩
      subst hwo
      go_wp2
      go_region_held3 (fun w' => Bel w w' ∧ (w'.cell? ⟨b, o + k * 2, none⟩ = some (.slice A1 n1 c1) ∧ w'.cell? ⟨b, o + k * 2 + 1, none⟩ = some (.slice A2 n2 c2)) ∧ w'.cell? ⟨b', o' + k * 2, none⟩ = some (.slice B1 m1 d1) ∧ w'.cell? ⟨b', o' + k * 2 + 1, none⟩ = some (.slice B2 m2 d2)) (exact ⟨by (repeat (first | exact Bel.refl _ | assumption | refine Bel.drew ?_ | refine Bel.drewN ?_ _ | refine Bel.alloc ?_ _ | refine Bel.setCell ?_ (by first | omega | (simp; done) | (simp; omega) | (simp at *; omega)) _ | refine Bel.trans ?_ (by assumption))), Held.out _ (by (repeat (first | exact Bel.refl _ | assumption | refine Bel.drew ?_ | refine Bel.drewN ?_ _ | refine Bel.alloc ?_ _ | refine Bel.setCell ?_ (by first | omega | (simp; done) | (simp; omega) | (simp at *; omega)) _ | refine Bel.trans ?_ (by assumption))))⟩)
        (first | (go_at_call_of 45 (Value.slice A1 n1 c1); refine (sameInts_any A1 B1 n1 c1 m1 d1 l _ (hI.bel (by (repeat (first | exact Bel.refl _ | assumption | refine Bel.drew ?_ | refine Bel.drewN ?_ _ | refine Bel.alloc ?_ _ | refine Bel.setCell ?_ (by first | omega | (simp; done) | (simp; omega) | (simp at *; omega)) _ | refine Bel.trans ?_ (by assumption))))) (hI'.bel (by (repeat (first | exact Bel.refl _ | assumption | refine Bel.drew ?_ | refine Bel.drewN ?_ _ | refine Bel.alloc ?_ _ | refine Bel.setCell ?_ (by first | omega | (simp; done) | (simp; omega) | (simp at *; omega)) _ | refine Bel.trans ?_ (by assumption))))) HL1.out HL3.out hx1).mono ?_; rintro e w1 ⟨rfl, hb1⟩) | (go_at_call_of 45 (Value.slice A2 n2 c2); refine (sameInts_any A2 B2 n2 c2 m2 d2 r _ (hJ.bel (by (repeat (first | exact Bel.refl _ | assumption | refine Bel.drew ?_ | refine Bel.drewN ?_ _ | refine Bel.alloc ?_ _ | refine Bel.setCell ?_ (by first | omega | (simp; done) | (simp; omega) | (simp at *; omega)) _ | refine Bel.trans ?_ (by assumption))))) (hJ'.bel (by (repeat (first | exact Bel.refl _ | assumption | refine Bel.drew ?_ | refine Bel.drewN ?_ _ | refine Bel.alloc ?_ _ | refine Bel.setCell ?_ (by first | omega | (simp; done) | (simp; omega) | (simp at *; omega)) _ | refine Bel.trans ?_ (by assumption))))) HL2.out HL4.out hx2).mono ?_; rintro e w2 ⟨rfl, hb2⟩))
      all_goals
        go_wp2
        go_roundw
        case rel => exact ⟨k + 1, by omega, by go_num, by (repeat (first | exact Bel.refl _ | assumption | refine Bel.drew ?_ | refine Bel.drewN ?_ _ | refine Bel.alloc ?_ _ | refine Bel.setCell ?_ (by first | omega | (simp; done) | (simp; omega) | (simp at *; omega)) _ | refine Bel.trans ?_ (by assumption)))⟩
        case measure => simp [intOf]; omega
    · obtain rfl : k = n := by omega
      go_wp2
      go_ret
      exact ⟨rfl, hb⟩
end Go.Proofs.Ytmckoehkekkldaa
