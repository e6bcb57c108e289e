/- Weigh by the document. -/
import Derived.Test.YtfjegdejfccgaaaQ
namespace Go.Proofs.Ytfjegdejfccgaaa
open Go.RowKit

set_option maxRecDepth 100000 in
set_option maxHeartbeats 1000000 in
theorem weighed_any (A B : Option Addr) (n c m d : Nat) (X Y : List (List Int)) (T : Option Addr) (t u : Nat) (ws : List Int) (w : World) (hS : Strk w A n B m X Y) (hT : Ints w T ws) (ht : ws.length = t) (hmax : t ≤ maxLen) :
    Calls Try.prog 95 #[.agg #[.slice A n c, .slice B m d], .slice T t u] w fun e w' => e = .returned (.int .i64 (errW X Y ws)) ∧ Bel w w' := by
  have Ht := Lib.hid ht
  have Held := Lib.hid (fun w' (h : Bel (w.alloc (.cells #[.slice A n c, .slice B m d] 24)) w') => box_sl h)
  clear ht
  rcases errS_cases X Y with he | he
  · have hSt := str_of he
    have HE := Lib.hid he
    have HX := Lib.hid hS.lx
    have n1 : 1 ≤ n := by rw [← HX.out]; exact hSt.x1
    have h0 : (0 : Int) < (n : Int) := by omega
    obtain ⟨b, o, ns, A', n', c', rfl, hbl, hg, hcell, hI, hl, hmm⟩ := hS.tx.at_ (k := 0) (by rw [HX.out]; omega)
    have HEl := Lib.hid (show elN X = n' by rw [elN_at hg, hl])
    rw [Nat.add_zero] at hcell
    have HQ := Lib.hid (fun w' (h : Bel w w') => show w'.cell? ⟨b, o, none⟩ = some (.slice A' n' c') from by rw [h.use.1 _ _ hbl]; exact hcell)
    have HNM := Lib.hid (show wtB X ws = listB (-1000000) 1000000 ws (n' : Int) by unfold wtB; rw [HEl.out])
    clear hSt hg hl hI hcell
    cases hb : wtB X ws with
    | false =>
      have HB := Lib.hid hb
      have HF := Lib.hid (errW_no he hb)
      clear hb he
      go_enter Try.func95, Try.ntmps95
      go_wp2_with fail
      refine (rValidate_any _ B n c m d X Y _ (hS.bel (by (repeat (first | exact Bel.refl _ | assumption | refine Bel.drew ?_ | refine Bel.drewN ?_ _ | refine Bel.alloc ?_ _ | refine Bel.setCell ?_ (by first | omega | (simp; done) | (simp; omega) | (simp at *; omega)) _ | refine Bel.trans ?_ (by assumption)))))).mono ?_
      rintro e w1 ⟨rfl, hb1⟩
      rw [HE.out]
      obtain ⟨q0, q1⟩ := Held.out _ hb1
      have q2 := HQ.out _ (((Bel.refl w).alloc _).trans hb1)
      go_wp2_with fail
      refine (isList_any T t u ws (n' : Int) (-1000000) 1000000 _ (hT.bel (((Bel.refl w).alloc _).trans hb1)) Ht.out hmax).mono ?_
      rintro e w4 ⟨rfl, rfl⟩
      rw [← HNM.out, HB.out]
      go_wp2
      go_ret
      exact ⟨ret_int HF.out.symm, ((Bel.refl w).alloc _).trans hb1⟩
    | true =>
      have HB := Lib.hid hb
      have HF := Lib.hid (errW_ok he hb)
      clear hb he
      go_enter Try.func95, Try.ntmps95
      go_wp2_with fail
      refine (rValidate_any _ B n c m d X Y _ (hS.bel (by (repeat (first | exact Bel.refl _ | assumption | refine Bel.drew ?_ | refine Bel.drewN ?_ _ | refine Bel.alloc ?_ _ | refine Bel.setCell ?_ (by first | omega | (simp; done) | (simp; omega) | (simp at *; omega)) _ | refine Bel.trans ?_ (by assumption)))))).mono ?_
      rintro e w1 ⟨rfl, hb1⟩
      rw [HE.out]
      obtain ⟨q0, q1⟩ := Held.out _ hb1
      have q2 := HQ.out _ (((Bel.refl w).alloc _).trans hb1)
      go_wp2_with fail
      refine (isList_any T t u ws (n' : Int) (-1000000) 1000000 _ (hT.bel (((Bel.refl w).alloc _).trans hb1)) Ht.out hmax).mono ?_
      rintro e w4 ⟨rfl, rfl⟩
      rw [← HNM.out, HB.out]
      go_wp2
      go_ret
      exact ⟨ret_int HF.out.symm, ((Bel.refl w).alloc _).trans hb1⟩
  · have HE := Lib.hid he
    have HF := Lib.hid (errW_bad (ws := ws) he)
    clear he
    go_enter Try.func95, Try.ntmps95
    go_wp2_with fail
    refine (rValidate_any A B n c m d X Y _ (hS.bel (by (repeat (first | exact Bel.refl _ | assumption | refine Bel.drew ?_ | refine Bel.drewN ?_ _ | refine Bel.alloc ?_ _ | refine Bel.setCell ?_ (by first | omega | (simp; done) | (simp; omega) | (simp at *; omega)) _ | refine Bel.trans ?_ (by assumption)))))).mono ?_
    rintro e w1 ⟨rfl, hb1⟩
    rw [HE.out]
    go_wp2
    go_ret
    exact ⟨ret_int HF.out.symm, by (repeat (first | exact Bel.refl _ | assumption | refine Bel.drew ?_ | refine Bel.drewN ?_ _ | refine Bel.alloc ?_ _ | refine Bel.setCell ?_ (by first | omega | (simp; done) | (simp; omega) | (simp at *; omega)) _ | refine Bel.trans ?_ (by assumption)))⟩
set_option maxRecDepth 100000 in
set_option maxHeartbeats 2000000 in
theorem rweigh_any (A B : Option Addr) (n c m d : Nat) (X Y : List (List Int)) (T : Option Addr) (t u : Nat) (ws : List Int) (w : World) (hS : Strk w A n B m X Y) (hT : Ints w T ws) (ht : ws.length = t) (he : errS X Y = 0) (hb : wtB X ws = true) :
    Calls Try.prog 96 #[.agg #[.slice A n c, .slice B m d], .slice T t u] w (News w (weighL X Y ws)) := by
  obtain ⟨i0, hi, hz0, hz1, hz2⟩ := info_parts info1T
  obtain ⟨i1, hj, hy0, hy1, hy2⟩ := info_parts info1I
  have hSt := str_of he
  obtain ⟨wb, wl⟩ := listB_yes hb
  have HX := Lib.hid hS.lx; have HY := Lib.hid hS.ly
  have n1 : 1 ≤ n := by rw [← HX.out]; exact hSt.x1
  have n3 : n ≤ 3 := by rw [← HX.out]; exact hSt.x3
  have m1 : 1 ≤ m := by rw [← HY.out]; exact hSt.y1
  have m3 : m ≤ 3 := by rw [← HY.out]; exact hSt.y3
  have Ht := Lib.hid ht
  have HW := Lib.hid wb
  have HRow := Lib.hid hSt.rows
  have e1 := hSt.e1
  have e4 := hSt.e4
  have hte : t = elN X := by omega
  have HV := Lib.hid (show weighL X Y ws = (X ++ Y).map fun r => rowTo r ws (elN X) from rfl)
  obtain ⟨E, hE⟩ : ∃ E, E = elN X := ⟨_, rfl⟩
  rw [← hE] at e1 e4 HRow hte HV
  have HTE := Lib.hid hte
  have Held := Lib.hid (fun w' (h : Bel (w.alloc (.cells #[.slice A n c, .slice B m d] 24)) w') => box_sl h)
  obtain ⟨b, o, vs, rfl, hal, hav, hVX⟩ := hS.tx.vals (by intro e; have := HX.out; rw [e] at this; simp at this; omega)
  obtain ⟨bb, bo, us, rfl, hbl2, hbv, hVY⟩ := hS.ty.vals (by intro e; have := HY.out; rw [e] at this; simp at this; omega)
  have HVX := Lib.hid hVX; have HVY := Lib.hid hVY
  have HAV : Hid (∀ w', Bel w w' → ∀ j u, vs[j]? = some u → w'.cell? ((⟨b, o, none⟩ : Addr).add j) = some u) := by
    intro w' h j u hj
    have := hav j u hj
    rw [Go.Addr.add_mid] at this ⊢
    rw [h.use.1 _ _ hal]
    exact this
  have HBV : Hid (∀ w', Bel w w' → ∀ j u, us[j]? = some u → w'.cell? ((⟨bb, bo, none⟩ : Addr).add j) = some u) := by
    intro w' h j u hj
    have := hbv j u hj
    rw [Go.Addr.add_mid] at this ⊢
    rw [h.use.1 _ _ hbl2]
    exact this
  have hX1 := Lib.hid (show 0 + n ≤ maxLen by unfold maxLen; omega)
  have hX2 := Lib.hid (show (0 + n) * 24 ≤ 140737488355328 by omega)
  have hX3 := Lib.hid (show 0 + n + m ≤ maxLen by unfold maxLen; omega)
  have hX4 := Lib.hid (show (0 + n + m) * 24 ≤ 140737488355328 by omega)
  clear he hb ht hSt wb wl hE hte hav hbv hVX hVY
  go_enter Try.func96, Try.ntmps96
  go_wp2
  obtain ⟨W0, hW0⟩ : ∃ W0, W0 = w.alloc (.cells #[.slice (some ⟨b, o, none⟩) n c, .slice (some ⟨bb, bo, none⟩) m d] 24) := ⟨_, rfl⟩
  have hbW : Bel w W0 := by rw [hW0]; (repeat (first | exact Bel.refl _ | assumption | refine Bel.drew ?_ | refine Bel.drewN ?_ _ | refine Bel.alloc ?_ _ | refine Bel.setCell ?_ (by first | omega | (simp; done) | (simp; omega) | (simp at *; omega)) _ | refine Bel.trans ?_ (by assumption)))
  rw [← hW0] at Held ⊢
  have q01 := Held.out _ (Bel.refl _)
  obtain ⟨q0, q1⟩ := q01
  clear hW0
  go_region_held_law (fun w' => Bel W0 w' ∧ (w'.cell? ⟨w.heap.size, 0, none⟩ = some (.slice (some ⟨b, o, none⟩) n c) ∧ w'.cell? ⟨w.heap.size, 1, none⟩ = some (.slice (some ⟨bb, bo, none⟩) m d))) (exact ⟨by (repeat (first | exact Bel.refl _ | assumption | refine Bel.drew ?_ | refine Bel.drewN ?_ _ | refine Bel.alloc ?_ _ | refine Bel.setCell ?_ (by first | omega | (simp; done) | (simp; omega) | (simp at *; omega)) _ | refine Bel.trans ?_ (by assumption))), Held.out _ (by (repeat (first | exact Bel.refl _ | assumption | refine Bel.drew ?_ | refine Bel.drewN ?_ _ | refine Bel.alloc ?_ _ | refine Bel.setCell ?_ (by first | omega | (simp; done) | (simp; omega) | (simp at *; omega)) _ | refine Bel.trans ?_ (by assumption))))⟩)
    (first | (refine step_append_lies _ rfl (.tmp 10) (.tmp 12) 22 rfl W0.heap.size 28 i0 _ 1 24 Try.underlying22 hi hz0 hz1 hz2 rfl (by decide) _ 0 [] (by rfl) (lit0 _ _ _ rfl (Nat.le_refl _)) ⟨b, o, none⟩ n c vs (by rfl) (by rw [HVX.out.len, HX.out, Nat.mul_one]) (HAV.out _ (by (repeat (first | exact Bel.refl _ | assumption | refine Bel.drew ?_ | refine Bel.drewN ?_ _ | refine Bel.alloc ?_ _ | refine Bel.setCell ?_ (by first | omega | (simp; done) | (simp; omega) | (simp at *; omega)) _ | refine Bel.trans ?_ (by assumption))))) HVX.out.one (by omega) hX1.out hX2.out (by simp) _ rfl ?_; intro g3 cap3 w3 hown3 hgr3 hat3 hlt3; have hB3 := grown_own (w := W0) (by (repeat (first | exact Bel.refl _ | assumption | refine Bel.drew ?_ | refine Bel.drewN ?_ _ | refine Bel.alloc ?_ _ | refine Bel.setCell ?_ (by first | omega | (simp; done) | (simp; omega) | (simp at *; omega)) _ | refine Bel.trans ?_ (by assumption)))) (lit0 _ _ _ rfl (Nat.le_refl _)) (Bel.refl W0).size hgr3) | (refine step_append_lies _ rfl (.tmp 13) (.tmp 15) 22 rfl W0.heap.size 28 i0 _ 1 24 Try.underlying22 hi hz0 hz1 hz2 rfl (by decide) _ (0 + n) ([] ++ vs) (by rfl) (ownsRow_bel hown3 (by (repeat (first | exact Bel.refl _ | assumption | refine Bel.drew ?_ | refine Bel.drewN ?_ _ | refine Bel.alloc ?_ _ | refine Bel.setCell ?_ (by first | omega | (simp; done) | (simp; omega) | (simp at *; omega)) _ | refine Bel.trans ?_ (by assumption))))) ⟨bb, bo, none⟩ m d us (by rfl) (by rw [HVY.out.len, HY.out, Nat.mul_one]) (HBV.out _ (by (repeat (first | exact Bel.refl _ | assumption | refine Bel.drew ?_ | refine Bel.drewN ?_ _ | refine Bel.alloc ?_ _ | refine Bel.setCell ?_ (by first | omega | (simp; done) | (simp; omega) | (simp at *; omega)) _ | refine Bel.trans ?_ (by assumption))))) HVY.out.one (by omega) hX3.out hX4.out hB3.size _ rfl ?_; intro g4 cap4 w4 hown4 hgr4 hat4 hlt4; have hB4 := grown_own (w := W0) hB3 hown3 (Nat.le_refl _) hgr4))
  have hTab := Tab.of_own (w := w) (vs := [] ++ vs ++ us) (T := X ++ Y) hown4 (hbW.trans hB4) (by rw [List.nil_append]; exact HVX.out.append HVY.out)
  have hw4 : Bel w w4 := hbW.trans hB4
  have HN := Lib.hid (show n + m = (X ++ Y).length by rw [List.length_append, HX.out, HY.out])
  have hn3i : (n : Int) ≤ 3 := by omega
  have hm3i : (m : Int) ≤ 3 := by omega
  have hE4 : (E : Int) ≤ 4 := by omega
  clear hown4 hgr4 hat4 hlt4 hgr3 hat3 hlt3 hown3 hB3 q0 q1
  go_wp2
  go_loopw [6, 7] (fun v i wr => ∃ k : Nat, k ≤ n + m ∧ i = .int .i64 k ∧ Bel w4 wr ∧ Own1 3 w4.heap.size wr v (((X ++ Y).take k).map fun r => rowTo r ws E)) (fun _ i _ => n + m - (intOf i).toNat)
  case atStart => exact ⟨0, Nat.zero_le _, rfl, by (repeat (first | exact Bel.refl _ | assumption | refine Bel.drew ?_ | refine Bel.drewN ?_ _ | refine Bel.alloc ?_ _ | refine Bel.setCell ?_ (by first | omega | (simp; done) | (simp; omega) | (simp at *; omega)) _ | refine Bel.trans ?_ (by assumption))), Own1.nil _ _ _⟩
  case round =>
    obtain ⟨k, hk, rfl, hbr, hO⟩ := hrel
    by_cases hlt : k < n + m
    · have hkN : (k : Int) < (n : Int) + (m : Int) := by omega
      obtain ⟨b3, o3, r, A3, n3', c3, hA3, hbl3, hg, hcell, hI, hl, hmm3⟩ := hTab.at_ (k := k) (by rw [← HN.out]; exact hlt)
      injection hA3 with hA3
      injection hA3 with e1' e2'
      subst e1' e2'
      rw [Nat.zero_add] at hcell
      have hrow := HRow.out r (List.mem_of_getElem? hg)
      obtain rfl : n3' = E := by rw [← hl]; exact hrow.1
      have HCE := Lib.hid (fun w' (h : Bel w4 w') => show w'.cell? ⟨g4, k, none⟩ = some (.slice A3 n3' c3) from by rw [h.use.1 _ _ hbl3]; exact hcell)
      have HR := Lib.hid hrow.2.1
      have HL := Lib.hid hl
      have HBD := Lib.hid (fun e => row_bd hrow.2.1 HW.out e)
      have HS := Lib.hid (show ((X ++ Y).take (k + 1)).map (fun r => rowTo r ws n3') = ((X ++ Y).take k).map (fun r => rowTo r ws n3') ++ [rowTo r ws n3'] by rw [take_at hg, List.map_append]; rfl)
      have HO := Lib.hid hO
      have hte4 : (t : Int) = (n3' : Int) := by have := HTE.out; omega
      have HTT := Lib.hid hte4
      clear hcell hg hl hrow hO hte4
      obtain ⟨wo, hwo⟩ : ∃ wo : World, wo = wr := ⟨_, rfl⟩
      subst hwo
      go_wp2
      go_loopw [8, 9] (fun s i wr => ∃ e : Nat, e ≤ n3' ∧ i = .int .i64 e ∧ s = .int .i64 (rowTo r ws e) ∧ Bel wo wr) (fun _ i _ => n3' - (intOf i).toNat)
      case atStart => exact ⟨0, Nat.zero_le _, rfl, rfl, Bel.refl _⟩
      case round =>
        obtain ⟨e, hee, rfl, rfl, hbr2⟩ := hrel
        have hcell := HCE.out _ (hbr.trans hbr2)
        have ht4 : (t : Int) ≤ 4 := by have := HTT.out; omega
        by_cases hel : e < n3'
        · have hei : (e : Int) < (n3' : Int) := by omega
          obtain ⟨b5, o5, x, rfl, hbl5, hg5, hc5⟩ := (hI.bel (hbr.trans hbr2)).at_ (k := e) (by rw [HL.out]; exact hel)
          obtain ⟨b6, o6, y, rfl, hbl6, hg6, hc6⟩ := (hT.bel (hw4.trans (hbr.trans hbr2))).at_ (k := e) (by rw [Ht.out, HTE.out]; exact hel)
          have het : (e : Int) < (t : Int) := by have := HTT.out; omega
          obtain ⟨x0, x9⟩ := HR.out x (List.mem_of_getElem? hg5)
          obtain ⟨y0, y9⟩ := HW.out y (List.mem_of_getElem? hg6)
          obtain ⟨p1, p2⟩ := mul9 x0 x9 y0 y9
          have HST := Lib.hid (row_step hg5 hg6)
          obtain ⟨d1, d2⟩ := HBD.out e
          obtain ⟨v, hv⟩ : ∃ v, v = rowTo r ws e := ⟨_, rfl⟩
          rw [← hv] at d1 d2 ⊢
          have HVV := Lib.hid hv
          have hcomm : y * x = x * y := Int.mul_comm _ _
          obtain ⟨P, hP⟩ : ∃ P, P = x * y := ⟨_, rfl⟩
          rw [← hP] at p1 p2
          have k1 : IntKind.i64.wrap (y * x) = P := by rw [hcomm, ← hP]; exact IntWalk.i64_in _ (by omega)
          have k2 : IntKind.i64.wrap (v + P) = v + P := IntWalk.i64_in _ (by omega)
          have HP := Lib.hid hP
          clear hg5 hg6 hv hcomm hP
          go_wp2
          go_quiet (fail)
          clear k1 k2
          go_wp2
          go_roundw
          case rel => exact ⟨e + 1, by omega, by go_num, by rw [HST.out, HVV.out, HP.out], by (repeat (first | exact Bel.refl _ | assumption | refine Bel.drew ?_ | refine Bel.drewN ?_ _ | refine Bel.alloc ?_ _ | refine Bel.setCell ?_ (by first | omega | (simp; done) | (simp; omega) | (simp at *; omega)) _ | refine Bel.trans ?_ (by assumption)))⟩
          case measure => simp [intOf]; omega
        · obtain rfl : e = n3' := by omega
          have het : ¬ ((e : Int) < (t : Int)) := by have := HTT.out; omega
          have het2 : (t : Int) ≤ (e : Int) := by omega
          obtain ⟨v, hv⟩ : ∃ v, v = rowTo r ws e := ⟨_, rfl⟩
          rw [← hv]
          have HVV := Lib.hid hv
          obtain ⟨P, hP⟩ : ∃ P, P = ((X ++ Y).take k).map (fun r => rowTo r ws e) := ⟨_, rfl⟩
          have hPl : P.length ≤ 6 := by rw [hP, List.length_map]; have := List.length_take_le k (X ++ Y); omega
          have HOP := Lib.hid (show Own1 3 w4.heap.size wr u6 P by rw [hP]; exact HO.out.bel hbr2)
          have HPP := Lib.hid hP
          have hX1 := Lib.hid (show P.length + 1 ≤ maxLen by unfold maxLen; omega)
          have hX2 := Lib.hid (show (P.length + 1) * 8 ≤ 140737488355328 by omega)
          have hwz := (hbr.trans hbr2).size
          have hbr3 := hbr.trans hbr2
          clear hv hP HO het
          go_wp2_with (at_builtin; go_loud (refine wpList_append_lies _ rfl (.tmp 43) (.tmp 45) 28 rfl w4.heap.size 3 i1 _ 1 8 Try.underlying28 hj hy0 hy1 hy2 rfl (by decide) u6 _ _ (by rfl) (Own1.alloc HOP.out _) ⟨wr.heap.size, 0, none⟩ 1 1 [.int .i64 v] (by rfl) rfl (new1 _ _ _ _ rfl) (one1 _) (by omega) hX1.out hX2.out (by simp <;> omega) _ rfl ?_); intro g5 cap5 w5 hown5 hgr5 hat5 hlt5)
          have hB5 := Lib.hid (grown_own (w := w4) (hbr3.alloc _) HOP.out (Nat.le_refl _) hgr5)
          have HO5 := Lib.hid (Own1.snoc hown5)
          clear hown5 hgr5 hat5 hlt5
          go_roundw
          case rel => exact ⟨k + 1, by omega, by go_num, hB5.out, by rw [HS.out, ← HPP.out, ← HVV.out]; exact HO5.out⟩
          case measure => simp [intOf]; omega
    · obtain rfl : k = n + m := by omega
      have ht : (X ++ Y).take (n + m) = X ++ Y := List.take_of_length_le (by rw [HN.out]; omega)
      rw [ht] at hO
      obtain ⟨A9, n9, c9, rfl, hn9, hI9⟩ := hO.form
      have HN9 := Lib.hid hn9
      have HI9 := Lib.hid hI9
      clear hn9 hI9 hO ht
      go_wp2
      go_ret
      exact ⟨A9, n9, c9, rfl, by rw [HV.out]; exact HN9.out, by (repeat (first | exact Bel.refl _ | assumption | refine Bel.drew ?_ | refine Bel.drewN ?_ _ | refine Bel.alloc ?_ _ | refine Bel.setCell ?_ (by first | omega | (simp; done) | (simp; omega) | (simp at *; omega)) _ | refine Bel.trans ?_ (by assumption))), by rw [HV.out]; exact HI9.out⟩
set_option maxRecDepth 100000 in
set_option maxHeartbeats 1000000 in
theorem rWeigh_any (A B : Option Addr) (n c m d : Nat) (X Y : List (List Int)) (T : Option Addr) (t u : Nat) (ws : List Int) (w : World) (hS : Strk w A n B m X Y) (hT : Ints w T ws) (ht : ws.length = t) (hmax : t ≤ maxLen) :
    Calls Try.prog 53 #[.agg #[.slice A n c, .slice B m d], .slice T t u] w (NewsE w (weighV X Y ws) (errW X Y ws)) := by
  have Ht := Lib.hid ht
  have Held := Lib.hid (fun w' (h : Bel (w.alloc (.cells #[.slice A n c, .slice B m d] 24)) w') => box_sl h)
  clear ht
  have hcases : (errS X Y = 0 ∧ wtB X ws = true ∧ errW X Y ws = 0) ∨ errW X Y ws = 1 := by
    rcases errS_cases X Y with h | h
    · cases k : wtB X ws with
      | true => exact .inl ⟨h, rfl, errW_ok h k⟩
      | false => exact .inr (errW_no h k)
    · exact .inr (errW_bad h)
  rcases hcases with ⟨he, hb, hz⟩ | hz
  · have HZ := Lib.hid hz
    have HE := Lib.hid he; have HB := Lib.hid hb
    have HV := Lib.hid (show weighV X Y ws = weighL X Y ws by unfold weighV; rw [if_pos hz])
    clear he hb hz
    go_enter Try.func53, Try.ntmps53
    go_wp2_with fail
    refine (weighed_any A B n c m d X Y T t u ws _ (hS.bel (by (repeat (first | exact Bel.refl _ | assumption | refine Bel.drew ?_ | refine Bel.drewN ?_ _ | refine Bel.alloc ?_ _ | refine Bel.setCell ?_ (by first | omega | (simp; done) | (simp; omega) | (simp at *; omega)) _ | refine Bel.trans ?_ (by assumption))))) (hT.bel (by (repeat (first | exact Bel.refl _ | assumption | refine Bel.drew ?_ | refine Bel.drewN ?_ _ | refine Bel.alloc ?_ _ | refine Bel.setCell ?_ (by first | omega | (simp; done) | (simp; omega) | (simp at *; omega)) _ | refine Bel.trans ?_ (by assumption))))) Ht.out hmax).mono ?_
    rintro e w1 ⟨rfl, hb1⟩
    rw [HZ.out]
    obtain ⟨q0, q1⟩ := Held.out _ hb1
    go_wp2_with fail
    refine (rweigh_any A B n c m d X Y T t u ws _ (hS.bel (((Bel.refl w).alloc _).trans hb1)) (hT.bel (((Bel.refl w).alloc _).trans hb1)) Ht.out HE.out HB.out).mono ?_
    rintro e w2 ⟨A9, n9, c9, rfl, hn9, hb2, hI9⟩
    have HN9 := Lib.hid hn9
    clear hn9
    go_wp2
    go_ret2
    exact ⟨A9, n9, c9, ret_t2 HZ.out.symm, by rw [HV.out]; exact HN9.out, by (repeat (first | exact Bel.refl _ | assumption | refine Bel.drew ?_ | refine Bel.drewN ?_ _ | refine Bel.alloc ?_ _ | refine Bel.setCell ?_ (by first | omega | (simp; done) | (simp; omega) | (simp at *; omega)) _ | refine Bel.trans ?_ (by assumption))), by rw [HV.out]; exact hI9⟩
  · have HZ := Lib.hid hz
    have HV := Lib.hid (show weighV X Y ws = [] by unfold weighV; rw [hz]; rfl)
    clear hz
    go_enter Try.func53, Try.ntmps53
    go_wp2_with fail
    refine (weighed_any A B n c m d X Y T t u ws _ (hS.bel (by (repeat (first | exact Bel.refl _ | assumption | refine Bel.drew ?_ | refine Bel.drewN ?_ _ | refine Bel.alloc ?_ _ | refine Bel.setCell ?_ (by first | omega | (simp; done) | (simp; omega) | (simp at *; omega)) _ | refine Bel.trans ?_ (by assumption))))) (hT.bel (by (repeat (first | exact Bel.refl _ | assumption | refine Bel.drew ?_ | refine Bel.drewN ?_ _ | refine Bel.alloc ?_ _ | refine Bel.setCell ?_ (by first | omega | (simp; done) | (simp; omega) | (simp at *; omega)) _ | refine Bel.trans ?_ (by assumption))))) Ht.out hmax).mono ?_
    rintro e w1 ⟨rfl, hb1⟩
    rw [HZ.out]
    go_wp2
    go_ret2
    exact ⟨none, 0, 0, ret_t2 HZ.out.symm, by rw [HV.out]; rfl, by (repeat (first | exact Bel.refl _ | assumption | refine Bel.drew ?_ | refine Bel.drewN ?_ _ | refine Bel.alloc ?_ _ | refine Bel.setCell ?_ (by first | omega | (simp; done) | (simp; omega) | (simp at *; omega)) _ | refine Bel.trans ?_ (by assumption))), by rw [HV.out]; exact .inl rfl⟩
end Go.Proofs.Ytfjegdejfccgaaa
