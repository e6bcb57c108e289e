/- Weigh by the program. -/
import Derived.Test.YtfjegdejfccgaaaP
namespace Go.Proofs.Ytfjegdejfccgaaa
open Go.RowKit

/-- The weight of the first elements of a compound. -/
def rowTo (r ws : List Int) : Nat → Int
  | 0 => 0
  | e + 1 => rowTo r ws e + r.getD e 0 * ws.getD e 0
theorem row_bd {r ws : List Int} (hr : ∀ a ∈ r, 0 ≤ a ∧ a ≤ 9) (hw : ∀ t ∈ ws, -1000000 ≤ t ∧ t ≤ 1000000) (e : Nat) : -((e : Int) * 9000000) ≤ rowTo r ws e ∧ rowTo r ws e ≤ (e : Int) * 9000000 := by
  induction e with
  | zero => simp [rowTo]
  | succ e ih =>
    have h1 := getD_in hr (by omega) (by omega) e
    have h2 := getD_in hw (by omega) (by omega) e
    have h3 := mul9 h1.1 h1.2 h2.1 h2.2
    simp only [rowTo]
    generalize r.getD e 0 * ws.getD e 0 = R at *
    omega
theorem row_step {r ws : List Int} {e : Nat} {x y : Int} (hx : r[e]? = some x) (hy : ws[e]? = some y) : rowTo r ws (e + 1) = rowTo r ws e + x * y := by
  rw [rowTo, getD_at hx, getD_at hy]
def wtB (X : List (List Int)) (ws : List Int) : Bool := listB (-1000000) 1000000 ws (elN X : Nat)
/-- The error of a strike and weights. -/
def errW (X Y : List (List Int)) (ws : List Int) : Int := if errS X Y = 0 then if wtB X ws then 0 else 1 else errS X Y
theorem errW_bad {X Y : List (List Int)} {ws : List Int} (h : errS X Y = 1) : errW X Y ws = 1 := by unfold errW; rw [h]; rfl
theorem errW_ok {X Y : List (List Int)} {ws : List Int} (h : errS X Y = 0) (k : wtB X ws = true) : errW X Y ws = 0 := by unfold errW; rw [if_pos h, k]; rfl
theorem errW_no {X Y : List (List Int)} {ws : List Int} (h : errS X Y = 0) (k : wtB X ws = false) : errW X Y ws = 1 := by unfold errW; rw [if_pos h, k]; rfl
def weighL (X Y : List (List Int)) (ws : List Int) : List Int := (X ++ Y).map fun r => rowTo r ws (elN X)
def weighV (X Y : List (List Int)) (ws : List Int) : List Int := if errW X Y ws = 0 then weighL X Y ws else []
/-- A new list, and an error. -/
def NewsE (w : World) (l : List Int) (x : Int) (e : Ending) (w' : World) : Prop := ∃ A n c, e = .returned (.tuple #[.slice A n c, .int .i64 x]) ∧ n = l.length ∧ Bel w w' ∧ Ints w' A l
/-- The same, with the room that the list has. -/
def NewsC (w : World) (l : List Int) (x : Int) (e : Ending) (w' : World) : Prop := ∃ A n c, e = .returned (.tuple #[.slice A n c, .int .i64 x]) ∧ n = l.length ∧ Bel w w' ∧ Ints w' A l ∧ n ≤ c ∧ c ≤ maxLen
theorem NewsC.e {w w' : World} {l : List Int} {x : Int} {e : Ending} (h : NewsC w l x e w') : NewsE w l x e w' := by
  obtain ⟨A, n, c, h1, h2, h3, h4, _⟩ := h
  exact ⟨A, n, c, h1, h2, h3, h4⟩
theorem Own1.formC {e base : Nat} {w : World} {v : Value} {l : List Int} (h : Own1 e base w v l) : ∃ A n c, v = .slice A n c ∧ n = l.length ∧ Ints w A l ∧ n ≤ c ∧ c ≤ maxLen := by
  rcases h.2 with ⟨rfl, h0⟩ | ⟨g, cap, cur, rfl, hb, hg, hn, hm, hs, ht⟩
  · exact ⟨none, 0, 0, rfl, by omega, .inl (List.eq_nil_of_length_eq_zero h0), Nat.le_refl _, Nat.zero_le _⟩
  · obtain ⟨A', n', c', e1, e2, e3⟩ := h.form
    injection e1 with e4 e5 e6
    subst e4 e5 e6
    exact ⟨_, _, _, rfl, rfl, e3, hn, hm⟩
theorem ret_t2 {a : Value} {x y : Int} (h : x = y) : Ending.returned (.tuple #[a, .int .i64 x]) = .returned (.tuple #[a, .int .i64 y]) := by rw [h]
set_option maxRecDepth 100000 in
set_option maxHeartbeats 2000000 in
theorem weigh_cap (A B : Option Addr) (n c m d : Nat) (X Y : List (List Int)) (T : Option Addr) (t u : Nat) (ws : List Int) (w : World) (hS : Strk w A n B m X Y) (hT : Ints w T ws) (ht : ws.length = t) (hmax : t ≤ maxLen) :
    Calls Try.prog 55 #[.agg #[.slice A n c, .slice B m d], .slice T t u] w (NewsC w (weighV X Y ws) (errW X Y ws)) := by
  have Ht := Lib.hid ht
  have Held := Lib.hid (fun w' (h : Bel (w.alloc (.cells #[.slice A n c, .slice B m d] 24)) w') => box_sl h)
  rcases errS_cases X Y with he | he
  · have hSt := str_of he
    have HE := Lib.hid he
    have HX := Lib.hid hS.lx; have HY := Lib.hid hS.ly
    have n1 : 1 ≤ n := by rw [← HX.out]; exact hSt.x1
    have n3 : n ≤ 3 := by rw [← HX.out]; exact hSt.x3
    have m1 : 1 ≤ m := by rw [← HY.out]; exact hSt.y1
    have m3 : m ≤ 3 := by rw [← HY.out]; exact hSt.y3
    cases hb : wtB X ws with
    | false =>
      have HB := Lib.hid hb
      have HF := Lib.hid (errW_no he hb)
      have HV := Lib.hid (show weighV X Y ws = [] by unfold weighV; rw [errW_no he hb]; rfl)
      clear hb he ht hSt
      go_enter Try.func55, Try.ntmps55
      go_wp2_with fail
      refine (validate_any A B n c m d X Y _ (hS.bel (by (repeat (first | exact Bel.refl _ | assumption | refine Bel.drew ?_ | refine Bel.drewN ?_ _ | refine Bel.alloc ?_ _ | refine Bel.setCell ?_ (by first | omega | (simp; done) | (simp; omega) | (simp at *; omega)) _ | refine Bel.trans ?_ (by assumption)))))).mono ?_
      rintro e w1 ⟨rfl, hb1⟩
      rw [HE.out]
      obtain ⟨q0, q1⟩ := Held.out _ hb1
      go_wp2_with fail
      refine (elementsOf_any A B n c m d X _ (hS.tx.bel (((Bel.refl w).alloc _).trans hb1)) HX.out n1).mono ?_
      rintro e w2 ⟨rfl, hb2⟩
      clear q0 q1
      go_wp2_with fail
      refine (areWithin_any T t u ws _ (-1000000) 1000000 _ (hT.bel (((Bel.refl w).alloc _).trans (hb1.trans hb2))) Ht.out hmax).mono ?_
      rintro e w4 ⟨rfl, rfl⟩
      rw [show listB (-1000000) 1000000 ws (elN X : Nat) = false from HB.out]
      go_wp2
      go_ret2
      exact ⟨none, 0, 0, ret_t2 HF.out.symm, by rw [HV.out]; rfl, ((Bel.refl w).alloc _).trans (hb1.trans hb2), by rw [HV.out]; exact .inl rfl, Nat.le_refl _, Nat.zero_le _⟩
    | true =>
      obtain ⟨i1, hj, hy0, hy1, hy2⟩ := info_parts info1I
      obtain ⟨wb, wl⟩ := listB_yes hb
      have HB := Lib.hid hb
      have HF := Lib.hid (errW_ok he hb)
      have HV := Lib.hid (show weighV X Y ws = (X ++ Y).map fun r => rowTo r ws (elN X) by unfold weighV; rw [errW_ok he hb]; rfl)
      have HW := Lib.hid wb
      have HRow := Lib.hid hSt.rows
      have e1 := hSt.e1
      have e4 := hSt.e4
      have hte : t = elN X := by omega
      obtain ⟨E, hE⟩ : ∃ E, E = elN X := ⟨_, rfl⟩
      rw [← hE] at HV e1 e4 HRow hte
      have HEE := Lib.hid hE
      have HTE := Lib.hid hte
      have hE4 : (E : Int) ≤ 4 := by omega
      have hE1 : (1 : Int) ≤ (E : Int) := by omega
      clear hb he ht hSt wb wl hE hte
      go_enter Try.func55, Try.ntmps55
      go_wp2_with fail
      refine (validate_any A B n c m d X Y _ (hS.bel (by (repeat (first | exact Bel.refl _ | assumption | refine Bel.drew ?_ | refine Bel.drewN ?_ _ | refine Bel.alloc ?_ _ | refine Bel.setCell ?_ (by first | omega | (simp; done) | (simp; omega) | (simp at *; omega)) _ | refine Bel.trans ?_ (by assumption)))))).mono ?_
      rintro e w1 ⟨rfl, hb1⟩
      rw [HE.out]
      obtain ⟨q0, q1⟩ := Held.out _ hb1
      go_wp2_with fail
      refine (elementsOf_any A B n c m d X _ (hS.tx.bel (((Bel.refl w).alloc _).trans hb1)) HX.out n1).mono ?_
      rintro e w2 ⟨rfl, hb2⟩
      clear q0 q1
      go_wp2_with fail
      refine (areWithin_any T t u ws _ (-1000000) 1000000 _ (hT.bel (((Bel.refl w).alloc _).trans (hb1.trans hb2))) Ht.out hmax).mono ?_
      rintro e w4 ⟨rfl, rfl⟩
      rw [show listB (-1000000) 1000000 ws (elN X : Nat) = true from HB.out]
      obtain ⟨q0, q1⟩ := Held.out _ (hb1.trans hb2)
      go_wp2_with fail
      refine (compoundsOf_any A B n c m d X Y _ (hS.bel (((Bel.refl w).alloc _).trans (hb1.trans hb2))) n1 (by omega) m1 (by omega)).mono ?_
      rintro e w3 ⟨A3, N, c3, rfl, hn3, hb3, hT3⟩
      have HN3 := Lib.hid hn3
      have hl6 : N ≤ 6 := by rw [hn3, List.length_append, HX.out, HY.out]; omega
      have hl6i : (N : Int) ≤ 6 := by omega
      have hw3 : Bel w w3 := ((Bel.refl w).alloc _).trans ((hb1.trans hb2).trans hb3)
      clear hn3 q0 q1
      go_wp2
      go_loopw [7, 26] (fun v i wr => ∃ k : Nat, k ≤ N ∧ i = .int .i64 k ∧ Bel w3 wr ∧ Own1 3 w3.heap.size wr v (((X ++ Y).take k).map fun r => rowTo r ws E)) (fun _ i _ => N - (intOf i).toNat)
      case atStart => exact ⟨0, Nat.zero_le _, rfl, Bel.refl _, Own1.nil _ _ _⟩
      case round =>
        obtain ⟨k, hk, rfl, hbr, hO⟩ := hrel
        by_cases hlt : k < N
        · have hkN : (k : Int) < (N : Int) := by omega
          obtain ⟨b, o, r, A', n', c', rfl, hbl, hg, hcell, hI, hl, hmm⟩ := (hT3.bel hbr).at_ (k := k) (by rw [← HN3.out]; exact hlt)
          have hrow := HRow.out r (List.mem_of_getElem? hg)
          obtain rfl : n' = E := by rw [← hl]; exact hrow.1
          have HR := Lib.hid hrow.2.1
          have HL := Lib.hid hl
          have HBD := Lib.hid (fun e => row_bd hrow.2.1 HW.out e)
          have HS := Lib.hid (show ((X ++ Y).take (k + 1)).map (fun r => rowTo r ws n') = ((X ++ Y).take k).map (fun r => rowTo r ws n') ++ [rowTo r ws n'] by rw [take_at hg, List.map_append]; rfl)
          have hwz := hbr.size
          have HO := Lib.hid hO
          have hwT := hT.bel (hw3.trans hbr)
          clear hg hl hrow hO
          go_wp2
          go_loop [10, 32] (fun s i => ∃ e : Nat, e ≤ n' ∧ i = .int .i64 e ∧ s = .int .i64 (rowTo r ws e)) (fun _ i => n' - (intOf i).toNat)
          case atStart => exact ⟨0, Nat.zero_le _, rfl, rfl⟩
          case round =>
            obtain ⟨e, hee, rfl, rfl⟩ := hrel
            by_cases hel : e < n'
            · have hei : (e : Int) < (n' : Int) := by omega
              obtain ⟨b3, o3, x, rfl, hbl3, hg3, hc3⟩ := hI.at_ (k := e) (by rw [HL.out]; exact hel)
              obtain ⟨b4, o4, y, rfl, hbl4, hg4, hc4⟩ := hwT.at_ (k := e) (by rw [Ht.out, HTE.out]; exact hel)
              have het : (e : Int) < (t : Int) := by have := HTE.out; omega
              have ht4 : (t : Int) ≤ 4 := by have := HTE.out; omega
              obtain ⟨x0, x9⟩ := HR.out x (List.mem_of_getElem? hg3)
              obtain ⟨y0, y9⟩ := HW.out y (List.mem_of_getElem? hg4)
              obtain ⟨p1, p2⟩ := mul9 x0 x9 y0 y9
              have HST := Lib.hid (row_step hg3 hg4)
              obtain ⟨d1, d2⟩ := HBD.out e
              obtain ⟨v, hv⟩ : ∃ v, v = rowTo r ws e := ⟨_, rfl⟩
              rw [← hv] at d1 d2 ⊢
              have HVV := Lib.hid hv
              clear hg3 hg4 hv
              go_wp2
              go_round
              case rel => exact ⟨e + 1, by omega, by go_num, by rw [HST.out, HVV.out]⟩
              case measure => simp [intOf]; omega
            · obtain rfl : e = n' := by omega
              obtain ⟨v, hv⟩ : ∃ v, v = rowTo r ws e := ⟨_, rfl⟩
              rw [← hv]
              have HVV := Lib.hid hv
              obtain ⟨P, hP⟩ : ∃ P, P = ((X ++ Y).take k).map (fun r => rowTo r ws e) := ⟨_, rfl⟩
              have hPl : P.length ≤ 6 := by rw [hP, List.length_map]; have := List.length_take_le k (X ++ Y); omega
              have HOP := Lib.hid (show Own1 3 w3.heap.size wr u7 P by rw [hP]; exact HO.out)
              have HPP := Lib.hid hP
              have hX1 := Lib.hid (show P.length + 1 ≤ maxLen by unfold maxLen; omega)
              have hX2 := Lib.hid (show (P.length + 1) * 8 ≤ 140737488355328 by omega)
              clear hv hP HO
              go_wp2_with (at_builtin; go_loud (refine wpList_append_lies _ rfl (.tmp 46) (.tmp 48) 28 rfl w3.heap.size 3 i1 _ 1 8 Try.underlying28 hj hy0 hy1 hy2 rfl (by decide) u7 _ _ (by rfl) (Own1.alloc HOP.out _) ⟨wr.heap.size, 0, none⟩ 1 1 [.int .i64 v] (by rfl) rfl (new1 _ _ _ _ rfl) (one1 _) (by omega) hX1.out hX2.out (by simp <;> omega) _ rfl ?_); intro g3 cap3 w5 hown3 hgr3 hat3 hlt3)
              have hB3 := Lib.hid (grown_own (w := w3) (hbr.alloc _) HOP.out (Nat.le_refl _) hgr3)
              have HO3 := Lib.hid (Own1.snoc hown3)
              clear hown3 hgr3 hat3 hlt3
              go_roundw
              case rel => exact ⟨k + 1, by omega, by go_num, hB3.out, by rw [HS.out, ← HPP.out, ← HVV.out]; exact HO3.out⟩
              case measure => simp [intOf]; omega
        · obtain rfl : k = N := by omega
          have ht : (X ++ Y).take k = X ++ Y := List.take_of_length_le (by rw [HN3.out]; omega)
          rw [ht] at hO
          obtain ⟨A9, n9, c9, rfl, hn9, hI9, hc9, hd9⟩ := hO.formC
          have HN9 := Lib.hid hn9
          have HI9 := Lib.hid hI9
          clear hn9 hI9 hO ht
          go_wp2
          go_ret2
          exact ⟨A9, n9, c9, ret_t2 HF.out.symm, by rw [HV.out]; exact HN9.out, by (repeat (first | exact Bel.refl _ | assumption | refine Bel.drew ?_ | refine Bel.drewN ?_ _ | refine Bel.alloc ?_ _ | refine Bel.setCell ?_ (by first | omega | (simp; done) | (simp; omega) | (simp at *; omega)) _ | refine Bel.trans ?_ (by assumption))), by rw [HV.out]; exact HI9.out, hc9, hd9⟩
  · have HE := Lib.hid he
    have HF := Lib.hid (errW_bad (ws := ws) he)
    have HV := Lib.hid (show weighV X Y ws = [] by unfold weighV; rw [errW_bad he]; rfl)
    clear he ht
    go_enter Try.func55, Try.ntmps55
    go_wp2_with fail
    refine (validate_any A B n c m d X Y _ (hS.bel (by (repeat (first | exact Bel.refl _ | assumption | refine Bel.drew ?_ | refine Bel.drewN ?_ _ | refine Bel.alloc ?_ _ | refine Bel.setCell ?_ (by first | omega | (simp; done) | (simp; omega) | (simp at *; omega)) _ | refine Bel.trans ?_ (by assumption)))))).mono ?_
    rintro e w1 ⟨rfl, hb1⟩
    rw [HE.out]
    go_wp2
    go_ret2
    exact ⟨none, 0, 0, ret_t2 HF.out.symm, by rw [HV.out]; rfl, by (repeat (first | exact Bel.refl _ | assumption | refine Bel.drew ?_ | refine Bel.drewN ?_ _ | refine Bel.alloc ?_ _ | refine Bel.setCell ?_ (by first | omega | (simp; done) | (simp; omega) | (simp at *; omega)) _ | refine Bel.trans ?_ (by assumption))), by rw [HV.out]; exact .inl rfl, Nat.le_refl _, Nat.zero_le _⟩
theorem weigh_any (A B : Option Addr) (n c m d : Nat) (X Y : List (List Int)) (T : Option Addr) (t u : Nat) (ws : List Int) (w : World) (hS : Strk w A n B m X Y) (hT : Ints w T ws) (ht : ws.length = t) (hmax : t ≤ maxLen) :
    Calls Try.prog 55 #[.agg #[.slice A n c, .slice B m d], .slice T t u] w (NewsE w (weighV X Y ws) (errW X Y ws)) := (weigh_cap A B n c m d X Y T t u ws w hS hT ht hmax).mono fun _ _ h => h.e
end Go.Proofs.Ytfjegdejfccgaaa
