/- The document's timed, and Columns. -/
import Derived.Test.YtfjegdejfccgaaaM
import Derived.Test.YtfjegdejfccgaaaK
namespace Go.Proofs.Ytfjegdejfccgaaa
open Go.RowKit

set_option maxRecDepth 100000 in
set_option maxHeartbeats 1000000 in
theorem timed_any (A B : Option Addr) (n c m d : Nat) (X Y : List (List Int)) (T : Option Addr) (t u : Nat) (ts : List Int) (w : World) (hS : Strk w A n B m X Y) (hT : Ints w T ts) (ht : ts.length = t) (hmax : t ≤ maxLen) :
    Calls Try.prog 83 #[.agg #[.slice A n c, .slice B m d], .slice T t u] w fun e w' => e = .returned (.int .i64 (errT X Y ts)) ∧ Bel w w' := by
  have Ht := Lib.hid ht
  have Held := Lib.hid (fun w' (h : Bel (w.alloc (.cells #[.slice A n c, .slice B m d] 24)) w') => box_sl h)
  clear ht
  rcases errS_cases X Y with he | he
  · have hSt := str_of he
    have HE := Lib.hid he
    have HX := Lib.hid hS.lx; have HY := Lib.hid hS.ly
    have n3 : n ≤ 3 := by rw [← HX.out]; exact hSt.x3
    have m3 : m ≤ 3 := by rw [← HY.out]; exact hSt.y3
    have HNM := Lib.hid (show tmB X Y ts = listB (-1000000) 1000000 ts ((n : Int) + (m : Int)) by unfold tmB; rw [HX.out, HY.out])
    have hni : (n : Int) ≤ 3 := by omega
    have hmi : (m : Int) ≤ 3 := by omega
    clear hSt
    cases hb : tmB X Y ts with
    | false =>
      have HB := Lib.hid hb
      have HF := Lib.hid (errT_no he hb)
      clear hb he
      go_enter Try.func83, Try.ntmps83
      go_wp2_with fail
      refine (rValidate_any A B n c m d X Y _ (hS.bel (by (repeat (first | exact Bel.refl _ | assumption | refine Bel.drew ?_ | refine Bel.drewN ?_ _ | refine Bel.alloc ?_ _ | refine Bel.setCell ?_ (by first | omega | (simp; done) | (simp; omega) | (simp at *; omega)) _ | refine Bel.trans ?_ (by assumption)))))).mono ?_
      rintro e w1 ⟨rfl, hb1⟩
      rw [HE.out]
      obtain ⟨q0, q1⟩ := Held.out _ hb1
      go_wp2_with fail
      refine (isList_any T t u ts ((n : Int) + (m : Int)) (-1000000) 1000000 _ (hT.bel (((Bel.refl w).alloc _).trans hb1)) Ht.out hmax).mono ?_
      rintro e w4 ⟨rfl, rfl⟩
      rw [← HNM.out, HB.out]
      go_wp2
      go_ret
      exact ⟨ret_int HF.out.symm, ((Bel.refl w).alloc _).trans hb1⟩
    | true =>
      have HB := Lib.hid hb
      have HF := Lib.hid (errT_ok he hb)
      clear hb he
      go_enter Try.func83, Try.ntmps83
      go_wp2_with fail
      refine (rValidate_any A B n c m d X Y _ (hS.bel (by (repeat (first | exact Bel.refl _ | assumption | refine Bel.drew ?_ | refine Bel.drewN ?_ _ | refine Bel.alloc ?_ _ | refine Bel.setCell ?_ (by first | omega | (simp; done) | (simp; omega) | (simp at *; omega)) _ | refine Bel.trans ?_ (by assumption)))))).mono ?_
      rintro e w1 ⟨rfl, hb1⟩
      rw [HE.out]
      obtain ⟨q0, q1⟩ := Held.out _ hb1
      go_wp2_with fail
      refine (isList_any T t u ts ((n : Int) + (m : Int)) (-1000000) 1000000 _ (hT.bel (((Bel.refl w).alloc _).trans hb1)) Ht.out hmax).mono ?_
      rintro e w4 ⟨rfl, rfl⟩
      rw [← HNM.out, HB.out]
      go_wp2
      go_ret
      exact ⟨ret_int HF.out.symm, ((Bel.refl w).alloc _).trans hb1⟩
  · have HE := Lib.hid he
    have HF := Lib.hid (errT_bad (ts := ts) he)
    clear he
    go_enter Try.func83, Try.ntmps83
    go_wp2_with fail
    refine (rValidate_any A B n c m d X Y _ (hS.bel (by (repeat (first | exact Bel.refl _ | assumption | refine Bel.drew ?_ | refine Bel.drewN ?_ _ | refine Bel.alloc ?_ _ | refine Bel.setCell ?_ (by first | omega | (simp; done) | (simp; omega) | (simp at *; omega)) _ | refine Bel.trans ?_ (by assumption)))))).mono ?_
    rintro e w1 ⟨rfl, hb1⟩
    rw [HE.out]
    go_wp2
    go_ret
    exact ⟨ret_int HF.out.symm, by (repeat (first | exact Bel.refl _ | assumption | refine Bel.drew ?_ | refine Bel.drewN ?_ _ | refine Bel.alloc ?_ _ | refine Bel.setCell ?_ (by first | omega | (simp; done) | (simp; omega) | (simp at *; omega)) _ | refine Bel.trans ?_ (by assumption)))⟩
theorem litI (w : World) (g base : Nat) (hg : g = w.heap.size) (hb : base ≤ g) : (w.alloc (.cells #[] 3)).ownsRow base 3 1 (.slice (some ⟨g, 0, none⟩) 0 0) 0 [] := by
  subst hg
  exact World.ownsRow_lit w #[] 0 hb (by unfold maxLen; omega) rfl
def negL (r : List Int) : List Int := r.map fun x => -x
def colL (X Y : List (List Int)) : List (List Int) := X ++ Y.map negL
theorem colL_x {X Y : List (List Int)} {k : Nat} {r : List Int} (h : X[k]? = some r) : (colL X Y).take (k + 1) = (colL X Y).take k ++ [r] := by
  refine take_at ?_
  unfold colL
  rw [List.getElem?_append_left (List.getElem?_eq_some_iff.1 h).1]
  exact h
theorem colL_y {X Y : List (List Int)} {k : Nat} {r : List Int} (h : Y[k]? = some r) : (colL X Y).take (X.length + (k + 1)) = (colL X Y).take (X.length + k) ++ [negL r] := by
  rw [← Nat.add_assoc]
  refine take_at ?_
  unfold colL
  rw [List.getElem?_append_right (by omega), Nat.add_sub_cancel_left, List.getElem?_map, h]
  rfl
theorem colL_len (X Y : List (List Int)) : (colL X Y).length = X.length + Y.length := by simp [colL]
theorem colT_len {X Y : List (List Int)} {k : Nat} (h : k ≤ X.length + Y.length) : ((colL X Y).take k).length = k := by rw [List.length_take, colL_len]; omega
set_option maxRecDepth 100000 in
set_option maxHeartbeats 2000000 in
theorem columns_any (A B : Option Addr) (n c m d : Nat) (X Y : List (List Int)) (w : World) (hS : Strk w A n B m X Y) (he : errS X Y = 0) :
    Calls Try.prog 72 #[.agg #[.slice A n c, .slice B m d]] w (NewT w (colL X Y)) := by
  obtain ⟨i0, hi, hz0, hz1, hz2⟩ := info_parts info1T
  obtain ⟨i1, hj, hy0, hy1, hy2⟩ := info_parts info1I
  have hSt := str_of he
  have HX := Lib.hid hS.lx; have HY := Lib.hid hS.ly
  have n3 : n ≤ 3 := by rw [← HX.out]; exact hSt.x3
  have m3 : m ≤ 3 := by rw [← HY.out]; exact hSt.y3
  have hni : (n : Int) ≤ 3 := by omega
  have hmi : (m : Int) ≤ 3 := by omega
  obtain ⟨E, hE⟩ : ∃ E, E = elN X := ⟨_, rfl⟩
  have e1 : 1 ≤ E := by rw [hE]; exact hSt.e1
  have e4 : E ≤ 4 := by rw [hE]; exact hSt.e4
  have HRX := Lib.hid (fun r (hr : r ∈ X) => show r.length = E from by rw [hE]; exact (hSt.rows r (by simp [hr])).1)
  have HRY := Lib.hid (fun r (hr : r ∈ Y) => show r.length = E from by rw [hE]; exact (hSt.rows r (by simp [hr])).1)
  have HBY := Lib.hid (fun r (hr : r ∈ Y) => (hSt.rows r (by simp [hr])).2.1)
  have HCL := Lib.hid (fun k (h : k ≤ n + m) => colT_len (X := X) (Y := Y) (k := k) (by rw [HX.out, HY.out]; exact h))
  have HCX := Lib.hid (fun k r (h : X[k]? = some r) => colL_x (Y := Y) h)
  have HCY := Lib.hid (fun k r (h : Y[k]? = some r) => colL_y (X := X) h)
  rw [HX.out] at HCY
  have Held := Lib.hid (fun w' (h : Bel (w.alloc (.cells #[.slice A n c, .slice B m d] 24)) w') => box_sl h)
  have hbW : Bel w (w.alloc (.cells #[.slice A n c, .slice B m d] 24)) := by (repeat (first | exact Bel.refl _ | assumption | refine Bel.drew ?_ | refine Bel.drewN ?_ _ | refine Bel.alloc ?_ _ | refine Bel.setCell ?_ (by first | omega | (simp; done) | (simp; omega) | (simp at *; omega)) _ | refine Bel.trans ?_ (by assumption)))
  obtain ⟨W0, hW0⟩ : ∃ W0, W0 = w.alloc (.cells #[.slice A n c, .slice B m d] 24) := ⟨_, rfl⟩
  have HW0 := Lib.hid hW0
  have HS0 := Lib.hid (show W0.heap.size = w.heap.size + 1 by rw [hW0]; simp)
  rw [← hW0] at Held hbW
  clear hSt hE hW0 he
  go_enter Try.func72, Try.ntmps72
  go_wp2
  rw [← HW0.out]
  go_loopw [3, 4] (fun v i wr => ∃ k : Nat, k ≤ n ∧ i = .int .i64 k ∧ Bel W0 wr ∧ OwnT W0.heap.size wr v ((colL X Y).take k)) (fun _ i _ => n - (intOf i).toNat)
  case atStart => exact ⟨0, Nat.zero_le _, rfl, Bel.refl _, OwnT.nil _ _⟩
  case round =>
    obtain ⟨k, hk, rfl, hb, hO⟩ := hrel
    obtain ⟨q0, q1⟩ := Held.out _ hb
    have hbw : Bel w wr := hbW.trans hb
    have hws : w.heap.size < wr.heap.size := by have := hb.size; have := HS0.out; omega
    by_cases hlt : k < n
    · obtain ⟨b, o, r, A', n', c', rfl, hbl, hg, hcell, hI, hl, hmm⟩ := (hS.tx.bel hbw).at_ (k := k) (by rw [HX.out]; exact hlt)
      obtain rfl : n' = E := by rw [← hl]; exact HRX.out r (List.mem_of_getElem? hg)
      obtain ⟨b5, o5, rfl, hbl5, hnw⟩ := hI.news (by intro e; rw [e] at hl; simp at hl; omega)
      have hnews : Hid (∀ w', Bel wr w' → ∀ j u, (r.map fun x => Value.int .i64 x)[j]? = some u → w'.cell? ((⟨b5, o5, none⟩ : Addr).add j) = some u) := by
        intro w' hb' j u hj
        have := hnw j u hj
        rw [Go.Addr.add_mid] at this ⊢
        rw [hb'.use.1 _ _ hbl5]
        exact this
      have HL := Lib.hid hl
      have HT := Lib.hid (HCX.out k r hg)
      have HLEN := Lib.hid (HCL.out k (by omega))
      obtain ⟨vs, hO⟩ := hO
      have hO1 := hO.own
      rw [HLEN.out] at hO1
      have hX1 := Lib.hid (show 0 + n' ≤ maxLen by unfold maxLen; omega)
      have hX2 := Lib.hid (show (0 + n') * 8 ≤ 140737488355328 by omega)
      have hX3 := Lib.hid (show k + 1 ≤ maxLen by unfold maxLen; omega)
      have hX4 := Lib.hid (show (k + 1) * 24 ≤ 140737488355328 by omega)
      have hbs : W0.heap.size ≤ wr.heap.size := hb.size
      clear hl hg hnw
      go_wp2_with (at_builtin; (first | (refine wpList_append_lies _ rfl (.tmp 16) (.tmp 21) 28 rfl wr.heap.size 3 i1 _ 1 8 Try.underlying28 hj hy0 hy1 hy2 rfl (by decide) _ 0 [] (by rfl) (litI wr wr.heap.size wr.heap.size rfl (Nat.le_refl _)) ⟨b5, o5, none⟩ n' c' (r.map fun x => .int .i64 x) (by rfl) (by rw [List.length_map, HL.out, Nat.mul_one]) (hnews.out _ (by (repeat (first | exact Bel.refl _ | assumption | refine Bel.drew ?_ | refine Bel.drewN ?_ _ | refine Bel.alloc ?_ _ | refine Bel.setCell ?_ (by first | omega | (simp; done) | (simp; omega) | (simp at *; omega)) _ | refine Bel.trans ?_ (by assumption))))) (one_map _) (by omega) hX1.out hX2.out (by simp) _ rfl ?_; intro g3 cap3 w3 hown3 hgr3 hat3 hlt3; have hB3 := grown_own (w := wr) ((Bel.refl wr).alloc _) (litI wr _ _ rfl (Nat.le_refl _)) (Nat.le_refl _) hgr3; simp only [Nat.zero_add, List.nil_append] at hown3; have hg3 := (World.ownsRow.lt hown3 g3 rfl).1; have HI3 := Lib.hid (ints_row hown3); have hs3 := hB3.size; clear hown3 hgr3 hat3) | (refine wpList_append_lies _ rfl (.tmp 15) (.tmp 23) 22 rfl W0.heap.size 28 i0 _ 1 24 Try.underlying22 hi hz0 hz1 hz2 rfl (by decide) u3 k vs (by rfl) ((ownsRow_bel hO1 hB3).alloc _) ⟨w3.heap.size, 0, none⟩ 1 1 [.slice (some ⟨g3, 0, none⟩) n' cap3] (by rfl) rfl (newS _ _ _ _ rfl) (oneS _ _ _) (by omega) hX3.out hX4.out (by simp <;> omega) _ rfl ?_; intro g4 cap4 w4 hown4 hgr4 hat4 hlt4)))
      have hO3 := OwnTV.snoc (g := g4) ((hO.bel hB3).bel ((Bel.refl w3).alloc _)) (HI3.out.bel ((Bel.refl w3).alloc _)) HL.out hmm (fun b o hA => by
        injection hA with hA
        injection hA with e1 e2
        subst e1
        exact ⟨by simp <;> omega, fun e => by have h1 := (World.ownsRow.lt hO1 _ e).2; omega, by omega⟩) (by rw [HLEN.out]; exact hown4) hgr4 (by rw [HLEN.out] at *; simpa using hat4)
      have hB4 := Lib.hid (grown_own (w := W0) ((hb.trans hB3).alloc _) (ownsRow_bel hO1 hB3) (Nat.le_refl _) hgr4)
      rw [HLEN.out] at hO3
      clear hown4 hgr4 hat4 hlt4 hO hO1
      go_roundw
      case rel => exact ⟨k + 1, by omega, by go_num, hB4.out, by rw [HT.out]; exact hO3⟩
      case measure => simp [intOf]; omega
    · obtain rfl : k = n := by omega
      have hO0 : OwnT W0.heap.size wr u3 ((colL X Y).take (k + 0)) := hO
      clear hO hws
      obtain ⟨wo, hwo⟩ : ∃ wo : World, wo = wr := ⟨_, rfl⟩
      subst hwo
      go_wp2
      go_loopw [3, 5] (fun v i wr => ∃ q : Nat, q ≤ m ∧ i = .int .i64 q ∧ Bel W0 wr ∧ OwnT W0.heap.size wr v ((colL X Y).take (k + q))) (fun _ i _ => m - (intOf i).toNat)
      case atStart => exact ⟨0, Nat.zero_le _, rfl, hb, hO0⟩
      case round =>
        clear hO0 hb hbw q0 q1 hlt
        obtain ⟨q, hq, rfl, hb, hO⟩ := hrel
        obtain ⟨q0, q1⟩ := Held.out _ hb
        have hbw : Bel w wr := hbW.trans hb
        have hws : w.heap.size < wr.heap.size := by have := hb.size; have := HS0.out; omega
        by_cases hlt : q < m
        · obtain ⟨b, o, r, A', n', c', rfl, hbl, hg, hcell0, hI, hl, hmm⟩ := (hS.ty.bel hbw).at_ (k := q) (by rw [HY.out]; exact hlt)
          obtain rfl : n' = E := by rw [← hl]; exact HRY.out r (List.mem_of_getElem? hg)
          have HCE := Lib.hid (fun w' (h : Bel wr w') => show w'.cell? ⟨b, o + q, none⟩ = some (.slice A' n' c') from by rw [h.use.1 _ _ hbl]; exact hcell0)
          have HL := Lib.hid hl
          have HB9 := Lib.hid (HBY.out r (List.mem_of_getElem? hg))
          have HT := Lib.hid (HCY.out q r hg)
          have HLEN := Lib.hid (HCL.out (k + q) (by omega))
          have hE4 : (n' : Int) ≤ 4 := by omega
          obtain ⟨wp, hwp⟩ : ∃ wp : World, wp = wr := ⟨_, rfl⟩
          subst hwp
          have HO := Lib.hid hO
          clear hl hg hcell0 hO
          go_wp2
          go_loopw [6, 7] (fun v i wr => ∃ j : Nat, j ≤ n' ∧ i = .int .i64 j ∧ Bel wp wr ∧ Own1 3 wp.heap.size wr v ((negL r).take j)) (fun _ i _ => n' - (intOf i).toNat)
          case atStart => exact ⟨0, Nat.zero_le _, rfl, Bel.refl _, Own1.nil _ _ _⟩
          case round =>
            clear q0 q1
            obtain ⟨j, hj9, rfl, hb6, hO6⟩ := hrel
            obtain ⟨q0, q1⟩ := Held.out _ (hb.trans hb6)
            have hcell := HCE.out _ hb6
            have hwz := hb6.size
            by_cases hjl : j < n'
            · obtain ⟨b7, o7, x, rfl, hb7, hg7, hc7⟩ := (hI.bel hb6).at_ (k := j) (by rw [HL.out]; exact hjl)
              obtain ⟨x0, x9⟩ := HB9.out x (List.mem_of_getElem? hg7)
              have hN := (show (negL r).take (j + 1) = (negL r).take j ++ [-x] by refine take_at ?_; unfold negL; rw [List.getElem?_map, hg7]; rfl)
              have hLJ := (show ((negL r).take j).length = j by unfold negL; rw [List.length_take, List.length_map, HL.out]; omega)
              obtain ⟨P, hP⟩ : ∃ P, P = (negL r).take j := ⟨_, rfl⟩
              rw [← hP] at hN hLJ hO6
              have HN := Lib.hid hN
              have HO6 := Lib.hid hO6
              have hX1 := Lib.hid (show P.length + 1 ≤ maxLen by rw [hLJ]; unfold maxLen; omega)
              have hX2 := Lib.hid (show (P.length + 1) * 8 ≤ 140737488355328 by rw [hLJ]; omega)
              clear hP hN hLJ
              clear hg7 hO6
              go_wp2_with (at_builtin; go_loud (refine wpList_append_lies _ rfl (.tmp 42) (.tmp 52) 28 rfl wp.heap.size 3 i1 _ 1 8 Try.underlying28 hj hy0 hy1 hy2 rfl (by decide) u6 _ _ (by rfl) (Own1.alloc HO6.out _) ⟨wr.heap.size, 0, none⟩ 1 1 [.int .i64 (-x)] (by rfl) rfl (new1 _ _ _ _ rfl) (one1 _) (by omega) hX1.out hX2.out (by simp <;> omega) _ rfl ?_); intro g3 cap3 w3 hown3 hgr3 hat3 hlt3)
              have hB3 := Lib.hid (grown_own (w := wp) (hb6.alloc _) HO6.out (Nat.le_refl _) hgr3)
              have HO3 := Lib.hid (Own1.snoc hown3)
              clear hown3 hgr3 hat3 hlt3
              go_roundw
              case rel => exact ⟨j + 1, by omega, by go_num, hB3.out, by rw [HN.out]; exact HO3.out⟩
              case measure => simp [intOf]; omega
            · obtain rfl : j = n' := by omega
              have ht : (negL r).take j = negL r := List.take_of_length_le (by unfold negL; rw [List.length_map, HL.out]; omega)
              rw [ht] at hO6
              have hlt9 := fun g (h : u6.ownBlock = some g) => World.ownsRow.lt hO6 g h
              obtain ⟨A9, n9, c9, rfl, hn9, hI9⟩ := hO6.form
              have hn9' : n9 = j := by rw [hn9]; unfold negL; rw [List.length_map, HL.out]
              subst hn9'
              have HN9 := Lib.hid hn9
              have HI9 := Lib.hid hI9
              obtain ⟨vs, hO⟩ := HO.out
              have hO1 := hO.own
              rw [HLEN.out] at hO1
              have hX3 := Lib.hid (show k + q + 1 ≤ maxLen by unfold maxLen; omega)
              have hX4 := Lib.hid (show (k + q + 1) * 24 ≤ 140737488355328 by omega)
              have hbs : W0.heap.size ≤ wr.heap.size := (hb.trans hb6).size
              have hbs2 : W0.heap.size ≤ wp.heap.size := hb.size
              have HLT9 := Lib.hid hlt9
              have HOO := Lib.hid hO
              have HO1 := Lib.hid hO1
              clear hn9 hI9 hO6 ht hO hO1 hlt9
              go_wp2_with (at_builtin; go_loud (refine wpList_append_lies _ rfl (.tmp 54) (.tmp 56) 22 rfl W0.heap.size 28 i0 _ 1 24 Try.underlying22 hi hz0 hz1 hz2 rfl (by decide) u3 (k + q) vs (by rfl) ((ownsRow_bel HO1.out hb6).alloc _) ⟨wr.heap.size, 0, none⟩ 1 1 [.slice A9 n9 c9] (by rfl) rfl (newS _ _ _ _ rfl) (oneS _ _ _) (by omega) hX3.out hX4.out (by simp <;> omega) _ rfl ?_); intro g4 cap4 w4 hown4 hgr4 hat4 hlt4)
              have hO3 := OwnTV.snoc (g := g4) ((HOO.out.bel hb6).bel ((Bel.refl wr).alloc _)) (HI9.out.bel ((Bel.refl wr).alloc _)) HN9.out.symm hmm (fun b o hA => by
                have h1 := HLT9.out b (by rw [hA]; rfl)
                exact ⟨by simp <;> omega, fun e => by have h2 := (World.ownsRow.lt HO1.out _ e).2; omega, by omega⟩) (by rw [HLEN.out]; exact hown4) hgr4 (by rw [HLEN.out] at *; simpa using hat4)
              have hB4 := Lib.hid (grown_own (w := W0) ((hb.trans hb6).alloc _) (ownsRow_bel HO1.out hb6) (Nat.le_refl _) hgr4)
              rw [HLEN.out] at hO3
              clear hown4 hgr4 hat4 hlt4
              go_roundw
              case rel => exact ⟨q + 1, by omega, by go_num, hB4.out, by rw [HT.out]; exact hO3⟩
              case measure => simp [intOf]; omega
        · obtain rfl : q = m := by omega
          have ht : (colL X Y).take (k + q) = colL X Y := List.take_of_length_le (by rw [colL_len, HX.out, HY.out]; omega)
          rw [ht] at hO
          obtain ⟨A', n', c', rfl, hn', hI⟩ := hO.form
          have HN := Lib.hid hn'
          clear hn' hO ht
          go_wp2
          go_ret
          exact ⟨A', n', c', rfl, HN.out, hbw, hI.low (Nat.zero_le _)⟩
end Go.Proofs.Ytfjegdejfccgaaa
