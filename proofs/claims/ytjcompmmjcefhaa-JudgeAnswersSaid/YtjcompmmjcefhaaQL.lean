/-
  The statement JudgeAnswersSaid: for all records and answers the record with one more answer has the state that After tells of the question; the lists stay as they were in their spare cells, too, and the known answers come out. No condition.
-/
import Derived.Test.YtjcompmmjcefhaaKX
import Derived.Test.YtjcompmmjcefhaaKY
import Derived.Test.YtjcompmmjcefhaaQP
import Derived.Test.YtjcompmmjcefhaaJJ
import Derived.Outline
import Derived.Deep.Onto
namespace Go.Proofs.Ytjcompmmjcefhaa.judgeAnswers
open Go.ChangeShapes Go.WideShapes Go.ChangeAt Go.RowKit Go.Joins

theorem aft_is {a d x z : Nat} {y : Bool} {a' d' : Nat} (ha : a ≤ 16) (hd : d ≤ 16) (hx : x ≤ a) (hz : z ≤ d) (h1 : a' = if y then x else a - x) (h2 : d' = if y then z + (a - x) else d - z + x) :
    aft1 a d x z y = a' ∧ aft2 a d x z y = d' ∧ errW a d x z = 0 := by
  have hS : inS (a : Int) (d : Int) := inS_of ha hd
  have hQ : inQ (a : Int) (d : Int) (x : Int) (z : Int) := by unfold inQ; omega
  unfold aft1 aft2 errW
  have hSQ : inS (a : Int) (d : Int) ∧ inQ (a : Int) (d : Int) (x : Int) (z : Int) := ⟨hS, hQ⟩
  rw [if_pos hSQ, if_pos hSQ, if_pos hS, if_pos hQ]
  cases y
  · simp only [if_false, Bool.false_eq_true] at h1 h2 ⊢
    subst h1 h2
    refine ⟨?_, ?_, ?_⟩ <;> first | trivial | omega
  · simp only [if_true] at h1 h2 ⊢
    subst h1 h2
    refine ⟨?_, ?_, ?_⟩ <;> first | trivial | omega

theorem OwnV.low {base b : Nat} {w : World} {v : Value} {L : List An} {vs : List Value} (h : OwnV base w v L vs) (hb : b ≤ base) : OwnV b w v L vs := ⟨World.ownsRow.mono h.own hb, h.len, h.els⟩
theorem drew_size (w : World) : w.drew.heap.size = w.heap.size := rfl
theorem news_an {w w' : World} {A : Option Addr} {n c : Nat} {y : Bool} {ty : TypeId} (h : Bel (w.alloc (.cells #[.slice A n c, .bool y] ty)).drew w') (g : Nat) (hg : g = w.heap.size) : ∀ j u, [Value.slice A n c, .bool y][j]? = some u → w'.cell? ((⟨g, 0, none⟩ : Addr).add j) = some u := by
  subst hg
  intro j u hj
  obtain ⟨h1, h2⟩ := box_an (((Bel.refl _).drew).trans h)
  rw [Go.Addr.add_mid]
  match j, hj with
  | 0, hj => simp at hj; subst hj; simpa using h1
  | 1, hj => simp at hj; subst hj; simpa using h2
theorem OwnV.longer {base g cap : Nat} {w w3 : World} {v : Value} {L : List An} {vs : List Value} {ns : List Int} {y : Bool} {A' : Option Addr} {n' c' : Nat} (h : OwnV base w v L vs) (hI : Ints w3 A' ns) (hn : ns.length = n') (hm : n' ≤ maxLen)
    (hown : w3.ownsRow base 25 2 (.slice (some ⟨g, 0, none⟩) (L.length + 1) cap) (L.length + 1) (vs ++ [.slice A' n' c', .bool y])) (hg : w.grownBy w3 v.ownBlock) : Ans w3 (some ⟨g, 0, none⟩) (L ++ [(ns, y)]) := by
  have hlv := h.len
  have hlt := (World.ownsRow.lt hown g rfl).2
  have hc := World.ownsRow.cells (g := g) hown rfl
  refine .inr ⟨g, 0, rfl, hlt, fun j ms z hj => ?_⟩
  by_cases hjl : j < L.length
  · rw [List.getElem?_append_left hjl] at hj
    obtain ⟨A2, n2, c2, h1, h2, h3, h4, h5, h6⟩ := h.els j ms z hj
    have k1 := hc (j * 2) _ (by rw [List.getElem?_append_left (by omega)]; exact h1)
    have k2 := hc (j * 2 + 1) _ (by rw [List.getElem?_append_left (by omega)]; exact h2)
    rw [Go.Addr.add_mid] at k1 k2
    exact ⟨A2, n2, c2, k1, k2, h3.grown hg (fun b o hA => (h6 b o hA).2), h4, h5⟩
  · obtain rfl : j = L.length := by
      have := (List.getElem?_eq_some_iff.1 hj).1
      simp at this
      omega
    rw [List.getElem?_append_right (Nat.le_refl _), Nat.sub_self] at hj
    simp at hj
    obtain ⟨rfl, rfl⟩ := hj
    have k1 := hc (L.length * 2) (.slice A' n' c') (by rw [List.getElem?_append_right (by omega), hlv, Nat.sub_self]; rfl)
    have k2 := hc (L.length * 2 + 1) (.bool y) (by rw [List.getElem?_append_right (by omega), hlv, show L.length * 2 + 1 - L.length * 2 = 1 from by omega]; rfl)
    rw [Go.Addr.add_mid] at k1 k2
    exact ⟨A', n', c', k1, k2, hI, hn, hm⟩

set_option maxRecDepth 100000 in
set_option maxHeartbeats 4000000 in
theorem main (g : Nat) (A : Option Addr) (n c : Nat) (L : List An) (A2 : Option Addr) (n2 c2 : Nat) (S : List Int) (y : Bool) (w : World) (hR : Ans w A L) (hn : L.length = n) (hmax : n ≤ maxLen) (hS : Ints w A2 S) (hn2 : S.length = n2) (h100 : n2 ≤ 100)
    (hl : longB L = false) (hn100 : n ≤ 100) (hsh : ∀ a ∈ L, a.1.length ≤ 100) (he : errA (g : Int) L = 0) (he2 : errA (g : Int) (L ++ [(S, y)]) = 0) :
    Calls Try.prog 10 #[.int .i64 (g : Int), .slice A n c, .agg #[.slice A2 n2 c2, .bool y]] w fun e w' => e = .returned (.bool true) ∧ Bel w w' := by
  obtain ⟨i0, hi, hz0, hz1, hz2⟩ := info_parts info2A
  obtain ⟨⟨g1, g2⟩, -, -⟩ := errA_zero he
  have Hn := Lib.hid hn; have HX := Lib.hid hmax; have HL := Lib.hid hl; have Hn2 := Lib.hid hn2; have HSH := Lib.hid hsh
  have HE := Lib.hid he; have HE2 := Lib.hid he2
  have HM2 := Lib.hid (show n2 ≤ maxLen by unfold maxLen; omega)
  have H0 := Lib.hid (errL_ok (lies := 0) he ⟨by omega, by omega⟩)
  have H1 := Lib.hid (errL_ok (lies := 1) he ⟨by omega, by omega⟩)
  have hz := z_bd L g
  obtain ⟨m1, m2, m3, m4⟩ := more_after L S y g
  obtain ⟨M, hM⟩ : ∃ M, M = L ++ [(S, y)] := ⟨_, rfl⟩
  have hML := Lib.hid (show M.length = n + 1 by rw [hM, List.length_append, hn]; rfl)
  rw [← hM] at m3 m4
  have hzM := z_bd M g
  have HMM := Lib.hid hM
  have HME := Lib.hid (show errA (g : Int) M = 0 by rw [hM]; exact he2)
  obtain ⟨a, ha⟩ : ∃ a, a = zA L g := ⟨_, rfl⟩
  obtain ⟨d, hd⟩ : ∃ d : Nat, d = zB L g - zA L g := ⟨_, rfl⟩
  obtain ⟨a', ha'⟩ : ∃ a', a' = zA M g := ⟨_, rfl⟩
  obtain ⟨d', hd'⟩ : ∃ d' : Nat, d' = zB M g - zA M g := ⟨_, rfl⟩
  have HDI := Lib.hid (show dI L g = (d : Int) by unfold dI; omega)
  have HDI' := Lib.hid (show dI M g = (d' : Int) by unfold dI; omega)
  have HA := Lib.hid ha; have HA' := Lib.hid ha'
  rw [← hd, ← ha] at m4
  rw [← hd'] at m4
  rw [← ha, ← ha'] at m3
  rw [← hd] at m2
  rw [← ha] at m1
  obtain ⟨f1, f2, f3⟩ := aft_is (y := y) (by omega) (by omega) m1 m2 m3 m4
  have HF1 := Lib.hid f1; have HF2 := Lib.hid f2; have HF3 := Lib.hid f3
  have hXX1 := Lib.hid (show L.length + 1 ≤ maxLen by unfold maxLen; omega)
  have hXX2 := Lib.hid (show (L.length + 1) * 32 ≤ 140737488355328 by omega)
  have hn2i : (n2 : Int) ≤ 100 := by omega
  have Held := Lib.hid (fun w' (h : Bel (w.alloc (.cells #[.slice A2 n2 c2, .bool y] 25)) w') => box_an h)
  clear hn hmax hl hn2 hsh he he2 hz m1 m2 m3 m4 hM hzM ha hd ha' hd' f1 f2 f3 h100
  go_enter Try.func10, Try.ntmps10
  go_wp2_with fail
  refine (long_any A n c L _ (hR.bel (by (repeat (first | exact Bel.refl _ | assumption | refine Bel.drew ?_ | refine Bel.drewN ?_ _ | refine Bel.alloc ?_ _ | refine Bel.setCell ?_ (by first | omega | (simp; done) | (simp; omega) | (simp at *; omega)) _ | refine Bel.trans ?_ (by assumption))))) Hn.out HX.out).mono ?_
  rintro e w1 ⟨rfl, rfl⟩
  rw [HL.out]
  obtain ⟨c0, c1⟩ := Held.out _ (Bel.refl _)
  go_wp2_with fail
  go_region_held_law (fun w' => Bel w w' ∧ w'.cell? ⟨w.heap.size, 0, none⟩ = some (.slice A2 n2 c2) ∧ w'.cell? ⟨w.heap.size, 1, none⟩ = some (.bool y)) (first | exact ⟨(((Bel.refl w).alloc _)).trans hB3, Held.out _ hB3⟩ | exact ⟨by (repeat (first | exact Bel.refl _ | assumption | refine Bel.drew ?_ | refine Bel.drewN ?_ _ | refine Bel.alloc ?_ _ | refine Bel.setCell ?_ (by first | omega | (simp; done) | (simp; omega) | (simp at *; omega)) _ | refine Bel.trans ?_ (by assumption))), Held.out _ (by (repeat (first | exact Bel.refl _ | assumption | refine Bel.drew ?_ | refine Bel.drewN ?_ _ | refine Bel.alloc ?_ _ | refine Bel.setCell ?_ (by first | omega | (simp; done) | (simp; omega) | (simp at *; omega)) _ | refine Bel.trans ?_ (by assumption))))⟩)
    (first
      | (go_at_call 27; refine (rCopy_any A n c L _ (hR.bel (by (repeat (first | exact Bel.refl _ | assumption | refine Bel.drew ?_ | refine Bel.drewN ?_ _ | refine Bel.alloc ?_ _ | refine Bel.setCell ?_ (by first | omega | (simp; done) | (simp; omega) | (simp at *; omega)) _ | refine Bel.trans ?_ (by assumption))))) Hn.out hn100 HSH.out).mono ?_; rintro e w2 ⟨v, rfl, ⟨vs, hO9⟩, hb2, hs2⟩; have hO := OwnV.low (b := w.heap.size + 1) hO9 (by simp); clear hO9)
      | (refine step_append_lies _ rfl (.tmp 34) (.tmp 36) 22 rfl (w.heap.size + 1) 25 i0 _ 2 32 Try.underlying22 hi hz0 hz1 hz2 rfl (by decide) v L.length vs (by rfl) (hO.own.alloc _) ⟨w2.heap.size, 0, none⟩ 1 1 [.slice A2 n2 c2, .bool y] (by rfl) rfl (new2 _ _ _ _ _ rfl) (one2 _ _ _ _) (by omega) hXX1.out hXX2.out (by rw [drew_size] at hs2; simp at hs2 ⊢; omega) _ rfl ?_; intro g3 cap3 w3 hown3 hgr3 hat3 hlt3
         have hB3 : Bel (w.alloc (.cells #[.slice A2 n2 c2, .bool y] 25)) w3 := grown_own (w := (w.alloc (.cells #[.slice A2 n2 c2, .bool y] 25))) ((((Bel.refl _).drew).trans hb2).alloc _) hO.own (by simp) hgr3
         have hA3 := OwnV.longer (g := g3) (ns := S) (y := y) (A' := A2) (n' := n2) (c' := c2) (hO.bel ((Bel.refl w2).alloc _)) (hS.bel (((Bel.refl w).alloc _).trans hB3)) Hn2.out HM2.out hown3 hgr3
         clear hown3 hgr3 hat3 hlt3 hO)
      | (refine step_append_lies _ rfl (.tmp 34) (.tmp 36) 22 rfl (w.heap.size + 1) 25 i0 _ 2 32 Try.underlying22 hi hz0 hz1 hz2 rfl (by decide) v L.length vs (by rfl) hO.own ⟨w.heap.size + 1, 0, none⟩ 1 1 [.slice A2 n2 c2, .bool y] (by rfl) rfl (news_an hb2 _ (by simp)) (one2 _ _ _ _) (by omega) hXX1.out hXX2.out (by rw [drew_size] at hs2; simp at hs2 ⊢; omega) _ rfl ?_; intro g3 cap3 w3 hown3 hgr3 hat3 hlt3
         have hB3 : Bel (w.alloc (.cells #[.slice A2 n2 c2, .bool y] 25)) w3 := grown_own (w := (w.alloc (.cells #[.slice A2 n2 c2, .bool y] 25))) ((((Bel.refl _).alloc _).drew).trans hb2) hO.own (by simp) hgr3
         have hA3 := OwnV.longer (g := g3) (ns := S) (y := y) (A' := A2) (n' := n2) (c' := c2) hO (hS.bel (((Bel.refl w).alloc _).trans hB3)) Hn2.out HM2.out hown3 hgr3
         clear hown3 hgr3 hat3 hlt3 hO))
  all_goals
    have hA4 := Lib.hid hA3
    obtain ⟨hbw3, k0, k1⟩ := ‹Bel w w3 ∧ _ ∧ _›
    rw [← HMM.out] at hA4
    clear hA3 hb2 hs2
    go_wp2_with fail
    refine (wState_ok g A n c L _ (hR.bel hbw3) Hn.out HX.out HE.out).mono ?_
    rintro e w4 ⟨rfl, hb4⟩
    rw [HDI.out, ← HA.out]
    go_wp2_with fail
    refine (wState_ok g _ (L.length + 1) cap3 M _ (hA4.out.bel hb4) (by rw [hML.out, Hn.out]) (by rw [Hn.out]; unfold maxLen; omega) HME.out).mono ?_
    rintro e w5 ⟨rfl, hb5⟩
    rw [HDI'.out, ← HA'.out]
    have hb35 := hb4.trans hb5
    go_wp2_with fail
    refine (wLeft_ok g A n c L 0 _ (hR.bel (hbw3.trans hb35)) Hn.out HX.out H0.out).mono ?_
    rintro e w6 ⟨A6, n6, c6, rfl, hn6a, hb6, hI6⟩
    have HN6a := Lib.hid hn6a
    clear hn6a
    go_wp2_with fail
    refine (wLeft_ok g A n c L 1 _ (hR.bel ((hbw3.trans hb35).trans hb6)) Hn.out HX.out H1.out).mono ?_
    rintro e w7 ⟨A7, n7, c7, rfl, hn7, hb7, hI7⟩
    have hb36 := hb35.trans hb6
    have hb37 := hb36.trans hb7
    have hbw7 := hbw3.trans hb37
    have h6l := leftL_len L g 0
    have h7l := leftL_len L g 1
    have hx1 : ∀ k, inX S (leftL L g 0) ((leftL L g 1).take k) ≤ k ∧ inY S (leftL L g 0) ((leftL L g 1).take k) ≤ k := fun k => ⟨Nat.le_trans List.countP_le_length (List.length_take_le _ _), Nat.le_trans List.countP_le_length (List.length_take_le _ _)⟩
    obtain ⟨Z, hZ⟩ : ∃ Z, Z = leftL L g 0 := ⟨_, rfl⟩
    obtain ⟨O, hOO⟩ : ∃ O, O = leftL L g 1 := ⟨_, rfl⟩
    have hn6 := HN6a.out
    rw [← hZ] at hn6 hI6 h6l hx1
    rw [← hOO] at hn7 hI7 h7l hx1
    have HF1' := HF1.out
    have HF2' := HF2.out
    have HF3' := HF3.out
    rw [← hZ, ← hOO] at HF1' HF2' HF3'
    have HG1 := Lib.hid HF1'; have HG2 := Lib.hid HF2'; have HG3 := Lib.hid HF3'
    have HN6 := Lib.hid hn6; have HN7 := Lib.hid hn7
    have h716 : n7 ≤ 16 := by omega
    have h616 : n6 ≤ 16 := by omega
    have HXX := Lib.hid hx1
    have k0w : ∀ w', Bel w3 w' → w'.cell? ⟨w.heap.size, 0, none⟩ = some (.slice A2 n2 c2) ∧ w'.cell? ⟨w.heap.size, 1, none⟩ = some (.bool y) := fun w' h => by
      have hlt3 : w.heap.size < w3.heap.size := block_lt_of_cell k0
      exact ⟨by rw [h.use.1 _ _ hlt3]; exact k0, by rw [h.use.1 _ _ hlt3]; exact k1⟩
    have KW := Lib.hid k0w
    clear hZ hOO hn6 hn7 hx1 HF1' HF2' HF3' HF1 HF2 HF3 k0w k0 k1 h6l h7l
    go_wp2
    go_loopw [18, 19, 20] (fun x z i wr => ∃ k : Nat, k ≤ n7 ∧ i = .int .i64 k ∧ x = .int .i64 ((inX S Z (O.take k) : Nat) : Int) ∧ z = .int .i64 ((inY S Z (O.take k) : Nat) : Int) ∧ Bel w7 wr) (fun _ _ i _ => n7 - (intOf i).toNat)
    case atStart => exact ⟨0, Nat.zero_le _, rfl, rfl, rfl, Bel.refl _⟩
    case round =>
      obtain ⟨k, hk, rfl, rfl, rfl, hb8⟩ := hrel
      obtain ⟨k0, k1⟩ := KW.out wr (hb37.trans hb8)
      have hI6' := hI6.bel (hb7.trans hb8)
      have hI7' := hI7.bel hb8
      have hS' := hS.bel (hbw7.trans hb8)
      obtain ⟨hxa, hya⟩ := HXX.out k
      by_cases hlt : k < n7
      · obtain ⟨b, o, v, rfl, hbl, hg, hc1⟩ := hI7'.at_ (k := k) (by rw [← HN7.out]; exact hlt)
        have hki : (k : Int) < (n7 : Int) := by omega
        have HT := Lib.hid (take_at hg)
        have HSX := Lib.hid (inX_snoc S Z (O.take k) v)
        have HSY := Lib.hid (inY_snoc S Z (O.take k) v)
        obtain ⟨X, hX⟩ : ∃ X, X = inX S Z (O.take k) := ⟨_, rfl⟩
        obtain ⟨Y, hY⟩ : ∃ Y, Y = inY S Z (O.take k) := ⟨_, rfl⟩
        rw [← hX] at hxa
        rw [← hY] at hya
        rw [← hX, ← hY]
        have HXe := Lib.hid hX; have HYe := Lib.hid hY
        have hXi : (X : Int) ≤ 16 := by omega
        have hYi : (Y : Int) ≤ 16 := by omega
        clear hg hX hY hxa hya
        cases hs : hasB S v
        · have HH := Lib.hid hs
          have HQX := Lib.hid (show inX S Z (O.take (k + 1)) = X by rw [HT.out, HSX.out, hs, ← HXe.out]; simp)
          have HQY := Lib.hid (show inY S Z (O.take (k + 1)) = Y by rw [HT.out, HSY.out, hs, ← HYe.out]; simp)
          clear hs
          go_wp2
          go_quiet ((go_at_call 21; exact Calls.quiet_of_same (((has_any A2 n2 c2 S v _ (hS'.bel (by (repeat (first | exact Bel.refl _ | assumption | refine Bel.drew ?_ | refine Bel.drewN ?_ _ | refine Bel.alloc ?_ _ | refine Bel.setCell ?_ (by first | omega | (simp; done) | (simp; omega) | (simp at *; omega)) _ | refine Bel.trans ?_ (by assumption))))) Hn2.out HM2.out).mono fun _ _ h => ⟨by rw [h.1, HH.out], h.2.symm⟩))))
          go_wp2
          go_roundw
          case rel => exact ⟨k + 1, by omega, by go_num, by rw [HQX.out], by rw [HQY.out], by (repeat (first | exact Bel.refl _ | assumption | refine Bel.drew ?_ | refine Bel.drewN ?_ _ | refine Bel.alloc ?_ _ | refine Bel.setCell ?_ (by first | omega | (simp; done) | (simp; omega) | (simp at *; omega)) _ | refine Bel.trans ?_ (by assumption)))⟩
          case measure => simp [intOf]; omega
        · have HH := Lib.hid hs
          cases hz : hasB Z v
          · have HZ := Lib.hid hz
            have HQX := Lib.hid (show inX S Z (O.take (k + 1)) = X by rw [HT.out, HSX.out, hs, hz, ← HXe.out]; simp)
            have HQY := Lib.hid (show inY S Z (O.take (k + 1)) = Y + 1 by rw [HT.out, HSY.out, hs, hz, ← HYe.out]; simp)
            clear hs hz
            go_wp2
            go_quiet ((go_at_call 21; exact Calls.quiet_of_same (((has_any A2 n2 c2 S v _ (hS'.bel (by (repeat (first | exact Bel.refl _ | assumption | refine Bel.drew ?_ | refine Bel.drewN ?_ _ | refine Bel.alloc ?_ _ | refine Bel.setCell ?_ (by first | omega | (simp; done) | (simp; omega) | (simp at *; omega)) _ | refine Bel.trans ?_ (by assumption))))) Hn2.out HM2.out).mono fun _ _ h => ⟨by rw [h.1, HH.out], h.2.symm⟩))))
            go_wp2_with fail
            refine (has_any A6 n6 c6 Z v _ (hI6'.bel (by (repeat (first | exact Bel.refl _ | assumption | refine Bel.drew ?_ | refine Bel.drewN ?_ _ | refine Bel.alloc ?_ _ | refine Bel.setCell ?_ (by first | omega | (simp; done) | (simp; omega) | (simp at *; omega)) _ | refine Bel.trans ?_ (by assumption))))) HN6.out.symm (by unfold maxLen; omega)).mono ?_
            rintro e w9 ⟨rfl, rfl⟩
            rw [HZ.out]
            go_wp2
            go_roundw
            case rel => exact ⟨k + 1, by omega, by go_num, by rw [HQX.out], by rw [HQY.out]; go_num, by (repeat (first | exact Bel.refl _ | assumption | refine Bel.drew ?_ | refine Bel.drewN ?_ _ | refine Bel.alloc ?_ _ | refine Bel.setCell ?_ (by first | omega | (simp; done) | (simp; omega) | (simp at *; omega)) _ | refine Bel.trans ?_ (by assumption)))⟩
            case measure => simp [intOf]; omega
          · have HZ := Lib.hid hz
            have HQX := Lib.hid (show inX S Z (O.take (k + 1)) = X + 1 by rw [HT.out, HSX.out, hs, hz, ← HXe.out]; simp)
            have HQY := Lib.hid (show inY S Z (O.take (k + 1)) = Y by rw [HT.out, HSY.out, hs, hz, ← HYe.out]; simp)
            clear hs hz
            go_wp2
            go_quiet ((go_at_call 21; exact Calls.quiet_of_same (((has_any A2 n2 c2 S v _ (hS'.bel (by (repeat (first | exact Bel.refl _ | assumption | refine Bel.drew ?_ | refine Bel.drewN ?_ _ | refine Bel.alloc ?_ _ | refine Bel.setCell ?_ (by first | omega | (simp; done) | (simp; omega) | (simp at *; omega)) _ | refine Bel.trans ?_ (by assumption))))) Hn2.out HM2.out).mono fun _ _ h => ⟨by rw [h.1, HH.out], h.2.symm⟩))))
            go_wp2_with fail
            refine (has_any A6 n6 c6 Z v _ (hI6'.bel (by (repeat (first | exact Bel.refl _ | assumption | refine Bel.drew ?_ | refine Bel.drewN ?_ _ | refine Bel.alloc ?_ _ | refine Bel.setCell ?_ (by first | omega | (simp; done) | (simp; omega) | (simp at *; omega)) _ | refine Bel.trans ?_ (by assumption))))) HN6.out.symm (by unfold maxLen; omega)).mono ?_
            rintro e w9 ⟨rfl, rfl⟩
            rw [HZ.out]
            go_wp2
            go_roundw
            case rel => exact ⟨k + 1, by omega, by go_num, by rw [HQX.out]; go_num, by rw [HQY.out], by (repeat (first | exact Bel.refl _ | assumption | refine Bel.drew ?_ | refine Bel.drewN ?_ _ | refine Bel.alloc ?_ _ | refine Bel.setCell ?_ (by first | omega | (simp; done) | (simp; omega) | (simp at *; omega)) _ | refine Bel.trans ?_ (by assumption)))⟩
            case measure => simp [intOf]; omega
      · obtain rfl : k = n7 := by omega
        have HT := Lib.hid (show O.take k = O from List.take_of_length_le (by rw [← HN7.out]; omega))
        rw [HT.out]
        clear hxa hya
        go_wp2_with fail
        refine (wAfter_any a d _ _ y _).mono ?_
        rintro e w9 ⟨rfl, hb9⟩
        rw [HG1.out, HG2.out, HG3.out]
        go_wp2_with (go_at_call 26; refine (known_any _).mono ?_; rintro e w7 ⟨rfl, hb7⟩)
        go_ret
        exact ⟨rfl, by (repeat (first | exact Bel.refl _ | assumption | refine Bel.drew ?_ | refine Bel.drewN ?_ _ | refine Bel.alloc ?_ _ | refine Bel.setCell ?_ (by first | omega | (simp; done) | (simp; omega) | (simp at *; omega)) _ | refine Bel.trans ?_ (by assumption)))⟩
theorem long_parts {L : List An} (h : longB L = false) : L.length ≤ 100 ∧ ∀ a ∈ L, a.1.length ≤ 100 := by
  unfold longB at h
  rw [Bool.or_eq_false_iff] at h
  refine ⟨by have := h.1; rw [decide_eq_false_iff_not] at this; omega, fun a ha => ?_⟩
  have := List.any_eq_false.1 h.2 a ha
  rw [decide_eq_true_eq] at this
  omega
/-- What State answers, whatever record it is given. -/
def StateAt (g : Int) (L : List An) (w : World) (e : Ending) (w' : World) : Prop := ∃ x y : Int, e = .returned (.tuple #[.int .i64 x, .int .i64 y, .int .i64 (errA g L)]) ∧ Bel w w'
theorem state_any (g : Int) (A : Option Addr) (n c : Nat) (L : List An) (w : World) (hR : Ans w A L) (hn : L.length = n) (hmax : n ≤ maxLen) :
    Calls Try.prog 19 #[.int .i64 g, .slice A n c] w (StateAt g L w) := by
  by_cases he : errA g L = 0
  · obtain ⟨k, rfl, -, -⟩ := errA_nat he
    refine (wState_ok k A n c L w hR hn hmax he).mono ?_
    rintro e w' ⟨rfl, hb⟩
    exact ⟨_, _, by rw [he], hb⟩
  · refine (wState_err g A n c L w hR hn hmax he).mono ?_
    rintro e w' ⟨rfl, hb⟩
    exact ⟨_, _, rfl, hb⟩

set_option maxRecDepth 100000 in
set_option maxHeartbeats 4000000 in
theorem main_err (g : Int) (A : Option Addr) (n c : Nat) (L : List An) (A2 : Option Addr) (n2 c2 : Nat) (S : List Int) (y : Bool) (w : World) (hR : Ans w A L) (hn : L.length = n) (hmax : n ≤ maxLen) (hS : Ints w A2 S) (hn2 : S.length = n2) (h100 : n2 ≤ 100)
    (hl : longB L = false) (hn100 : n ≤ 100) (hsh : ∀ a ∈ L, a.1.length ≤ 100) (he : errA g L ≠ 0 ∨ (errA g L = 0 ∧ errA g (L ++ [(S, y)]) ≠ 0)) :
    Calls Try.prog 10 #[.int .i64 g, .slice A n c, .agg #[.slice A2 n2 c2, .bool y]] w fun e w' => e = .returned (.bool true) ∧ Bel w w' := by
  obtain ⟨i0, hi, hz0, hz1, hz2⟩ := info_parts info2A
  have Hn := Lib.hid hn; have HX := Lib.hid hmax; have HL := Lib.hid hl; have Hn2 := Lib.hid hn2; have HSH := Lib.hid hsh
  have HM2 := Lib.hid (show n2 ≤ maxLen by unfold maxLen; omega)
  obtain ⟨M, hM⟩ : ∃ M, M = L ++ [(S, y)] := ⟨_, rfl⟩
  have hML := Lib.hid (show M.length = n + 1 by rw [hM, List.length_append, hn]; rfl)
  have HMM := Lib.hid hM
  rw [← hM] at he
  have hXX1 := Lib.hid (show L.length + 1 ≤ maxLen by unfold maxLen; omega)
  have hXX2 := Lib.hid (show (L.length + 1) * 32 ≤ 140737488355328 by omega)
  have hn2i : (n2 : Int) ≤ 100 := by omega
  obtain ⟨e1, he1⟩ : ∃ e1, e1 = errA g L := ⟨_, rfl⟩
  obtain ⟨e2, he2⟩ : ∃ e2, e2 = errA g M := ⟨_, rfl⟩
  rw [← he1, ← he2] at he
  have HE1 := Lib.hid he1; have HE2 := Lib.hid he2
  have HEE := Lib.hid he
  have Held := Lib.hid (fun w' (h : Bel (w.alloc (.cells #[.slice A2 n2 c2, .bool y] 25)) w') => box_an h)
  clear hn hmax hl hn2 hsh he hM h100 he1 he2
  go_enter Try.func10, Try.ntmps10
  go_wp2_with fail
  refine (long_any A n c L _ (hR.bel (by (repeat (first | exact Bel.refl _ | assumption | refine Bel.drew ?_ | refine Bel.drewN ?_ _ | refine Bel.alloc ?_ _ | refine Bel.setCell ?_ (by first | omega | (simp; done) | (simp; omega) | (simp at *; omega)) _ | refine Bel.trans ?_ (by assumption))))) Hn.out HX.out).mono ?_
  rintro e w1 ⟨rfl, rfl⟩
  rw [HL.out]
  obtain ⟨c0, c1⟩ := Held.out _ (Bel.refl _)
  go_wp2_with fail
  go_region_held_law (fun w' => Bel w w' ∧ w'.cell? ⟨w.heap.size, 0, none⟩ = some (.slice A2 n2 c2) ∧ w'.cell? ⟨w.heap.size, 1, none⟩ = some (.bool y)) (first | exact ⟨(((Bel.refl w).alloc _)).trans hB3, Held.out _ hB3⟩ | exact ⟨by (repeat (first | exact Bel.refl _ | assumption | refine Bel.drew ?_ | refine Bel.drewN ?_ _ | refine Bel.alloc ?_ _ | refine Bel.setCell ?_ (by first | omega | (simp; done) | (simp; omega) | (simp at *; omega)) _ | refine Bel.trans ?_ (by assumption))), Held.out _ (by (repeat (first | exact Bel.refl _ | assumption | refine Bel.drew ?_ | refine Bel.drewN ?_ _ | refine Bel.alloc ?_ _ | refine Bel.setCell ?_ (by first | omega | (simp; done) | (simp; omega) | (simp at *; omega)) _ | refine Bel.trans ?_ (by assumption))))⟩)
    (first
      | (go_at_call 27; refine (rCopy_any A n c L _ (hR.bel (by (repeat (first | exact Bel.refl _ | assumption | refine Bel.drew ?_ | refine Bel.drewN ?_ _ | refine Bel.alloc ?_ _ | refine Bel.setCell ?_ (by first | omega | (simp; done) | (simp; omega) | (simp at *; omega)) _ | refine Bel.trans ?_ (by assumption))))) Hn.out hn100 HSH.out).mono ?_; rintro e w2 ⟨v, rfl, ⟨vs, hO9⟩, hb2, hs2⟩; have hO := OwnV.low (b := w.heap.size + 1) hO9 (by simp); clear hO9)
      | (refine step_append_lies _ rfl (.tmp 34) (.tmp 36) 22 rfl (w.heap.size + 1) 25 i0 _ 2 32 Try.underlying22 hi hz0 hz1 hz2 rfl (by decide) v L.length vs (by rfl) (hO.own.alloc _) ⟨w2.heap.size, 0, none⟩ 1 1 [.slice A2 n2 c2, .bool y] (by rfl) rfl (new2 _ _ _ _ _ rfl) (one2 _ _ _ _) (by omega) hXX1.out hXX2.out (by rw [drew_size] at hs2; simp at hs2 ⊢; omega) _ rfl ?_; intro g3 cap3 w3 hown3 hgr3 hat3 hlt3
         have hB3 : Bel (w.alloc (.cells #[.slice A2 n2 c2, .bool y] 25)) w3 := grown_own (w := (w.alloc (.cells #[.slice A2 n2 c2, .bool y] 25))) ((((Bel.refl _).drew).trans hb2).alloc _) hO.own (by simp) hgr3
         have hA3 := OwnV.longer (g := g3) (ns := S) (y := y) (A' := A2) (n' := n2) (c' := c2) (hO.bel ((Bel.refl w2).alloc _)) (hS.bel (((Bel.refl w).alloc _).trans hB3)) Hn2.out HM2.out hown3 hgr3
         clear hown3 hgr3 hat3 hlt3 hO)
      | (refine step_append_lies _ rfl (.tmp 34) (.tmp 36) 22 rfl (w.heap.size + 1) 25 i0 _ 2 32 Try.underlying22 hi hz0 hz1 hz2 rfl (by decide) v L.length vs (by rfl) hO.own ⟨w.heap.size + 1, 0, none⟩ 1 1 [.slice A2 n2 c2, .bool y] (by rfl) rfl (news_an hb2 _ (by simp)) (one2 _ _ _ _) (by omega) hXX1.out hXX2.out (by rw [drew_size] at hs2; simp at hs2 ⊢; omega) _ rfl ?_; intro g3 cap3 w3 hown3 hgr3 hat3 hlt3
         have hB3 : Bel (w.alloc (.cells #[.slice A2 n2 c2, .bool y] 25)) w3 := grown_own (w := (w.alloc (.cells #[.slice A2 n2 c2, .bool y] 25))) ((((Bel.refl _).alloc _).drew).trans hb2) hO.own (by simp) hgr3
         have hA3 := OwnV.longer (g := g3) (ns := S) (y := y) (A' := A2) (n' := n2) (c' := c2) hO (hS.bel (((Bel.refl w).alloc _).trans hB3)) Hn2.out HM2.out hown3 hgr3
         clear hown3 hgr3 hat3 hlt3 hO))
  all_goals
    have hA4 := Lib.hid hA3
    obtain ⟨hbw3, k0, k1⟩ := ‹Bel w w3 ∧ _ ∧ _›
    rw [← HMM.out] at hA4
    clear hA3 hb2 hs2
    go_wp2_with fail
    refine (state_any g A n c L _ (hR.bel hbw3) Hn.out HX.out).mono ?_
    rintro e w4 ⟨x1, y1, rfl, hb4⟩
    rw [← HE1.out]
    go_wp2_with fail
    refine (state_any g _ (L.length + 1) cap3 M _ (hA4.out.bel hb4) (by rw [hML.out, Hn.out]) (by rw [Hn.out]; unfold maxLen; omega)).mono ?_
    rintro e w5 ⟨x2, y2, rfl, hb5⟩
    rw [← HE2.out]
    have hb35 := hbw3.trans (hb4.trans hb5)
    rcases HEE.out with h1 | ⟨h1, h2⟩
    · have hne : (e1 != 0) = true := by simpa using h1
      clear h1
      go_wp2_with (go_at_call 26; refine (known_any _).mono ?_; rintro e w7 ⟨rfl, hb7⟩)
      go_ret
      exact ⟨rfl, by (repeat (first | exact Bel.refl _ | assumption | refine Bel.drew ?_ | refine Bel.drewN ?_ _ | refine Bel.alloc ?_ _ | refine Bel.setCell ?_ (by first | omega | (simp; done) | (simp; omega) | (simp at *; omega)) _ | refine Bel.trans ?_ (by assumption)))⟩
    · have hne : (e2 != 0) = true := by simpa using h2
      subst h1
      clear h2
      go_wp2_with (go_at_call 26; refine (known_any _).mono ?_; rintro e w7 ⟨rfl, hb7⟩)
      go_ret
      exact ⟨rfl, by (repeat (first | exact Bel.refl _ | assumption | refine Bel.drew ?_ | refine Bel.drewN ?_ _ | refine Bel.alloc ?_ _ | refine Bel.setCell ?_ (by first | omega | (simp; done) | (simp; omega) | (simp at *; omega)) _ | refine Bel.trans ?_ (by assumption)))⟩
set_option maxRecDepth 100000 in
theorem inner_long (g : Int) (A : Option Addr) (n c : Nat) (L : List An) (A2 : Option Addr) (n2 c2 : Nat) (y : Bool) (w : World) (hR : Ans w A L) (hn : L.length = n) (hmax : n ≤ maxLen) (hl : longB L = true) :
    Calls Try.prog 10 #[.int .i64 g, .slice A n c, .agg #[.slice A2 n2 c2, .bool y]] w fun e w' => e = .returned (.bool true) ∧ Bel w w' := by
  have Hn := Lib.hid hn; have HL := Lib.hid hl
  clear hn hl
  go_enter Try.func10, Try.ntmps10
  go_wp2_with fail
  refine (long_any A n c L _ (hR.bel (by (repeat (first | exact Bel.refl _ | assumption | refine Bel.drew ?_ | refine Bel.drewN ?_ _ | refine Bel.alloc ?_ _ | refine Bel.setCell ?_ (by first | omega | (simp; done) | (simp; omega) | (simp at *; omega)) _ | refine Bel.trans ?_ (by assumption))))) Hn.out hmax).mono ?_
  rintro e w1 ⟨rfl, rfl⟩
  rw [HL.out]
  go_wp2_with (go_at_call 26; refine (known_any _).mono ?_; rintro e w7 ⟨rfl, hb7⟩)
  go_ret
  exact ⟨rfl, by (repeat (first | exact Bel.refl _ | assumption | refine Bel.drew ?_ | refine Bel.drewN ?_ _ | refine Bel.alloc ?_ _ | refine Bel.setCell ?_ (by first | omega | (simp; done) | (simp; omega) | (simp at *; omega)) _ | refine Bel.trans ?_ (by assumption)))⟩
set_option maxRecDepth 100000 in
theorem inner_many (g : Int) (A : Option Addr) (n c : Nat) (L : List An) (A2 : Option Addr) (n2 c2 : Nat) (y : Bool) (w : World) (hR : Ans w A L) (hn : L.length = n) (hmax : n ≤ maxLen) (hl : longB L = false) (h2 : 100 < n2) :
    Calls Try.prog 10 #[.int .i64 g, .slice A n c, .agg #[.slice A2 n2 c2, .bool y]] w fun e w' => e = .returned (.bool true) ∧ Bel w w' := by
  have Hn := Lib.hid hn; have HL := Lib.hid hl
  have h2i : (100 : Int) < (n2 : Int) := by omega
  have Held := Lib.hid (fun w' (h : Bel (w.alloc (.cells #[.slice A2 n2 c2, .bool y] 25)) w') => box_an h)
  clear hn hl h2
  go_enter Try.func10, Try.ntmps10
  go_wp2_with fail
  refine (long_any A n c L _ (hR.bel (by (repeat (first | exact Bel.refl _ | assumption | refine Bel.drew ?_ | refine Bel.drewN ?_ _ | refine Bel.alloc ?_ _ | refine Bel.setCell ?_ (by first | omega | (simp; done) | (simp; omega) | (simp at *; omega)) _ | refine Bel.trans ?_ (by assumption))))) Hn.out hmax).mono ?_
  rintro e w1 ⟨rfl, rfl⟩
  rw [HL.out]
  obtain ⟨c0, c1⟩ := Held.out _ (Bel.refl _)
  go_wp2_with (go_at_call 26; refine (known_any _).mono ?_; rintro e w7 ⟨rfl, hb7⟩)
  go_ret
  exact ⟨rfl, by (repeat (first | exact Bel.refl _ | assumption | refine Bel.drew ?_ | refine Bel.drewN ?_ _ | refine Bel.alloc ?_ _ | refine Bel.setCell ?_ (by first | omega | (simp; done) | (simp; omega) | (simp at *; omega)) _ | refine Bel.trans ?_ (by assumption)))⟩
theorem inner (g : Int) (A : Option Addr) (n c : Nat) (L : List An) (A2 : Option Addr) (n2 c2 : Nat) (S : List Int) (y : Bool) (w : World) (hR : Ans w A L) (hn : L.length = n) (hmax : n ≤ maxLen) (hS : Ints w A2 S) (hn2 : S.length = n2) :
    Calls Try.prog 10 #[.int .i64 g, .slice A n c, .agg #[.slice A2 n2 c2, .bool y]] w fun e w' => e = .returned (.bool true) ∧ Bel w w' := by
  cases hl : longB L
  · obtain ⟨l1, l2⟩ := long_parts hl
    by_cases h2 : 100 < n2
    · exact inner_many g A n c L A2 n2 c2 y w hR hn hmax hl h2
    · by_cases he : errA g L = 0
      · by_cases he2 : errA g (L ++ [(S, y)]) = 0
        · obtain ⟨k, rfl, -, -⟩ := errA_nat he
          exact main k A n c L A2 n2 c2 S y w hR hn hmax hS hn2 (by omega) hl (by omega) l2 he he2
        · exact main_err g A n c L A2 n2 c2 S y w hR hn hmax hS hn2 (by omega) hl (by omega) l2 (.inr ⟨he, he2⟩)
      · exact main_err g A n c L A2 n2 c2 S y w hR hn hmax hS hn2 (by omega) hl (by omega) l2 (.inl he)
  · exact inner_long g A n c L A2 n2 c2 y w hR hn hmax hl

set_option maxRecDepth 100000 in
set_option maxHeartbeats 1000000 in
theorem walk (g : Int) (A : Option Addr) (n c : Nat) (Z : List AnZ) (A2 : Option Addr) (n2 c2 : Nat) (ys : List Int) (y : Bool) (w : World) (a : ArgA w A n c Z) (k : ArgI w A2 n2 c2 ys) :
    Calls Try.prog 3 #[.int .i64 g, .slice A n c, .agg #[.slice A2 n2 c2, .bool y]] w fun e w' => e = .returned (.bool true) ∧ Bel w w' := by
  obtain ⟨e1, e2, e3⟩ := a.els
  obtain ⟨f1, f2, f3⟩ := k.els
  have hc9 := (reachN_le a.reach (by omega)).1
  have hd9 := (reachN_le k.reach (by omega)).1
  have Held := Lib.hid (fun w' (h : Bel (w.alloc (.cells #[.slice A2 n2 c2, .bool y] 25)) w') => box_an h)
  have hb0 : Bel w (w.alloc (.cells #[.slice A2 n2 c2, .bool y] 25)) := (Bel.refl w).alloc _
  go_enter Try.func3, Try.ntmps3
  go_wp2_with fail
  refine (keepAnswers_any A n c Z _ (a.ans.bel hb0) a.len a.le a.nil a.reach).mono ?_
  rintro e w1 ⟨A', n', c', rfl, hn', hb1, hr1⟩
  have HN := Lib.hid hn'; clear hn'
  obtain ⟨c0, c1⟩ := Held.out _ hb1
  go_wp2_with fail
  refine (keepInts_any A2 n2 c2 ys _ (k.ints.bel (hb0.trans hb1)) k.len k.le k.nil k.reach).mono ?_
  rintro e w2 ⟨B', m', d', rfl, hm', hb2, hr2, -⟩
  have HM := Lib.hid hm'; clear hm'
  have hB2 := hb1.trans hb2
  clear c0 c1
  obtain ⟨c0, c1⟩ := Held.out _ hB2
  go_wp2_with fail
  refine (inner g A n c _ A2 n2 c2 _ y _ (e1.bel (hb0.trans hB2)) e2 e3 (f1.bel (hb0.trans hB2)) f2).mono ?_
  rintro e w3 ⟨rfl, hb3⟩
  have hB3 := hB2.trans hb3
  clear c0 c1
  obtain ⟨c0, c1⟩ := Held.out _ hB3
  go_wp2_with fail
  refine (keptAnswers_any A' A n' c' n c Z _ (hr1.bel (hb2.trans hb3)) (a.ans.bel (hb0.trans hB3)) HN.out.symm a.len a.le a.nil hc9).mono ?_
  rintro e w4 ⟨rfl, hb4⟩
  have hB4 := hB3.trans hb4
  clear c0 c1
  obtain ⟨c0, c1⟩ := Held.out _ hB4
  go_wp2_with fail
  refine (keptInts_any B' A2 m' d' n2 c2 ys _ (hr2.bel (hb3.trans hb4)) (k.ints.bel (hb0.trans hB4)) HM.out.symm k.len k.le k.nil hd9).mono ?_
  rintro e w5 ⟨rfl, hb5⟩
  go_wp2
  go_ret
  exact ⟨rfl, hb0.trans (hB4.trans hb5)⟩
section
variable {H : Type}
set_option maxRecDepth 100000 in
/-- An answer that came in. -/
theorem open_answer {enc : TypeId × Value → H} {W : World} {r : Reach} {b0 : Nat} {v : Value} {d : DataW H} {p : List MemPlace} (hv : Value.okWide Try.prog W r b0 25 v)
    (h : DataW.Trod enc Try.prog W 0 (fun _ => true) true 25 v d p) (hr : ∀ k ∈ d.weights Try.prog 25, k ≤ reachN) :
    ∃ A n c zs y, v = .agg #[.slice A n c, .bool y] ∧ ArgI W A n c zs := by
  obtain ⟨c0, c1, y0, y1, m, rfl, hd, -, hy0, hy1⟩ := open_agg2 Try.underlying25 (by kernel_rfl) cellsAnswer hv h
  obtain ⟨b, e1, -⟩ := DataW.trod_bool Try.underlying4 hy1
  simp at e1
  subst e1
  have hw : ∀ k ∈ y0.1.weights Try.prog 23, k ≤ reachN := by
    intro k hk
    refine hr k ?_
    rw [hd]
    simp only [DataW.weights, Try.underlying25]
    rw [show (#[_, _] : Array Field).toList.map (·.type) = [23, 4] from rfl, DataW.weightsEach, List.mem_append]
    exact .inl hk
  obtain ⟨A, n, c, zs, rfl, h1, h2, h3, h4, h5⟩ := open_ints1 hy0 hw
  exact ⟨A, n, c, zs, b, rfl, h1, h2, h3, h4, h5⟩
end

set_option maxRecDepth 100000 in
theorem lifted (os : Os) (started : os.Started) (H : Type) (enc : TypeId × Value → H) :
    ReturnsInHanded {} Try.checked os 3 .any (Rows.judgeAnswersSpec.pre6 enc Try.prog Try.f3 Rows.judgeAnswersRow.domain false) (Rows.judgeAnswersSpec.post enc Try.prog Try.f3 false true false false) := by
  refine returnsInHanded_of_change_sized (C := Try.checked) own started (by kernel_rfl) Try.func3
    (ChangeSpec.witness6 (enc := enc) (C := Try.checked) false ⟨#[], #[.int .i64 0, .slice none 0 0, .agg #[.slice none 0 0, .bool false]], []⟩ 8 (by kernel_rfl) (by kernel_rfl) (by kernel_rfl) (by kernel_rfl)) ?_
  intro W base args ds gs before hval0 hW hcnd hsz0 _
  have hval : ∀ (j : Nat) t v, Try.f3.params[j]? = some t → args[j]? = some v → Value.okWide Try.prog W .any base t v := hval0
  have hsz : (DataW.weightsEach Try.prog (Try.f3.params.toList ++ Rows.judgeAnswersSpec.plain.varTypes Try.prog) (ds ++ gs)).all (· ≤ reachBytes) = true := hsz0
  have hW' := hW
  obtain ⟨p, q, hA0, hV, rfl, hfz, hnd⟩ := hW
  have hA : DataW.TrodAll enc Try.prog W 0 (fun _ => true) true Try.f3.params.toList args.toList ds p := hA0
  rw [Try.params3] at hA hval hsz
  obtain ⟨v0, vs0, d0, ds0, p0, q0, hargs, rfl, rfl, h0, r0⟩ := trodAll_cons hA
  obtain ⟨v1, vs1, d1, ds1, p1, q1, rfl, rfl, rfl, h1, r1⟩ := trodAll_cons r0
  obtain ⟨v2, vs2, d2, ds2, p2, q2, rfl, rfl, rfl, h2, r2⟩ := trodAll_cons r1
  obtain ⟨rfl, rfl, rfl⟩ := trodAll_nil r2
  obtain rfl : args = #[v0, v1, v2] := by cases args; simp_all
  obtain ⟨rfl, rfl⟩ := trodVars_none hV
  have k0 := h0
  have lt0 : ∀ x ∈ p0, x.block < W.heap.size := by obtain ⟨m, hm⟩ := k0; exact DataW.trod_lt m _ _ _ hm
  have k1 := h1
  have lt1 : ∀ x ∈ p1, x.block < W.heap.size := by obtain ⟨m, hm⟩ := k1; exact DataW.trod_lt m _ _ _ hm
  have k2 := h2
  have lt2 : ∀ x ∈ p2, x.block < W.heap.size := by obtain ⟨m, hm⟩ := k2; exact DataW.trod_lt m _ _ _ hm
  obtain ⟨x0, rfl, rfl, rfl, w0⟩ := open_int Try.underlying3 (hval 0 3 v0 rfl rfl) h0
  have hr1 : ∀ k ∈ d1.weights Try.prog 22, k ≤ reachN := fun k hk => by rw [← reach_eq]; simpa using List.all_eq_true.1 hsz k (DataW.weights_mem_each (j := 1) rfl rfl k hk)
  obtain ⟨A1, n1, c1, zs1, rfl, a1⟩ := open_argA (hval 1 22 v1 rfl rfl) h1 hr1
  have hr2 : ∀ k ∈ d2.weights Try.prog 25, k ≤ reachN := fun k hk => by rw [← reach_eq]; simpa using List.all_eq_true.1 hsz k (DataW.weights_mem_each (j := 2) rfl rfl k hk)
  obtain ⟨A2, n2, c2, zs2, y2, rfl, a2⟩ := open_answer (hval 2 25 v2 rfl rfl) h2 hr2
  clear hA0 hval0
  refine (walk x0 A1 n1 c1 zs1 A2 n2 c2 zs2 y2 W a1 a2).mono fun e W' ⟨he, bel⟩ => ?_
  subst he
  exact ⟨_, rfl, _, _, _, [], _, [], hW', trodAll_mk1 (shut_bool Try.underlying4 _), trodAll_cons_mk (shut_int Try.underlying3 w0) (trodAll_cons_mk (Below.trod laidOut (by kernel_rfl) (of_decide_eq_true (by kernel_rfl)) k1 bel lt1) (trodAll_cons_mk (Below.trod laidOut (by kernel_rfl) (of_decide_eq_true (by kernel_rfl)) k2 bel lt2) (trodAll_mk0))), rfl, Below.frame bel _, fun h => by cases h⟩

theorem over : Rows.judgeAnswersRow.holds Try.pinned (OpenSpec.ofChange Rows.judgeAnswersSpec) :=
  OpenClaim.holds_of_wide 3 Try.f3 rfl rfl rfl rfl rfl rfl rfl ⟨rfl, rfl, rfl, rfl, rfl⟩ rfl rfl rfl rfl rfl (by kernel_rfl) Try.func3 (by kernel_rfl)
    (of_decide_eq_true (by kernel_rfl)) (by unfold Func.isWrapper; rw [if_neg (of_decide_eq_false (by kernel_rfl))]; exact ⟨rfl, rfl⟩)
    (fun os started H enc _ => lifted os started H enc)

/-- The statement. -/
theorem proved : Rows.JudgeAnswersSaid := over
end Go.Proofs.Ytjcompmmjcefhaa.judgeAnswers
