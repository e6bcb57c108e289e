/- Opposite by the document, walked; errors of Opposite by both. -/
import Derived.Test.YtcndmfkbfimllaaBC
import Derived.Test.YtcndmfkbfimllaaW
namespace Go.Proofs.Ytcndmfkbfimllaa
open Go.RowKit Go.Maps

set_option maxRecDepth 100000 in
set_option maxHeartbeats 2000000 in
theorem rOpposite_ok (p : Nat) (A : Option Addr) (n c : Nat) (G : List (Nat × Nat)) (w : World) (hR : Prs w A (up G)) (hn : G.length = n) (h60 : n ≤ 900) (hS : Shop p G) :
    Calls Try.prog 77 #[.agg #[.int .i64 (p : Int), .slice A n c]] w (ShopRes w (p : Int) (up (wrTo G false p p))) := by
  obtain ⟨i0, hi, hz0, hz1, hz2⟩ := info_parts info2F
  have HE := Lib.hid hS.err
  have Hn := Lib.hid hn
  have Hu := Lib.hid (show (up G).length = n by rw [up_length]; exact hn)
  have p7 := hS.p7
  have hpi : (p : Int) ≤ 7 := by omega
  have Held := Lib.hid (fun w' (h : Bel (w.alloc (.cells #[.int .i64 (p : Int), .slice A n c] 24)) w') => pair_box h)
  clear hn hS
  go_enter Try.func77, Try.ntmps77
  go_wp2_with fail
  refine (rValidate_any p A n c (up G) _ (hR.bel (by (repeat (first | exact Bel.refl _ | assumption | refine Bel.drew ?_ | refine Bel.drewN ?_ _ | refine Bel.alloc ?_ _ | refine Bel.setCell ?_ (by first | omega | (simp; done) | (simp; omega) | (simp at *; omega)) _ | refine Bel.trans ?_ (by assumption))))) Hu.out h60).mono ?_
  rintro e w1 ⟨rfl, hb1⟩
  rw [HE.out]
  have hb01 : Bel (w.alloc (.cells #[.int .i64 (p : Int), .slice A n c] 24)) w1 := ((Bel.refl _).alloc _).trans hb1
  obtain ⟨b0, b1⟩ := Held.out _ hb01
  have hsz1 : w.heap.size < w1.heap.size := by have := hb1.size; simp at this; omega
  have hsz2 : w.heap.size + 1 < w1.heap.size := by have := hb1.size; simp at this; omega
  have hres := Lib.hid (fun w' (h : Bel w1 w') => show (w'.cell? ⟨w.heap.size + 1, 0, none⟩ = some (.int .i64 0) ∧ w'.cell? ⟨w.heap.size + 1, 1, none⟩ = some (.slice none 0 0)) ∧ ∀ o, w'.frozen? ⟨w.heap.size + 1, o, none⟩ = false from by
    have h2 := hb1.trans h
    refine ⟨⟨?_, ?_⟩, fun o => ?_⟩
    · rw [h2.use.1 _ _ (by simp)]; go_simp
    · rw [h2.use.1 _ _ (by simp)]; go_simp
    · rw [h2.use.2.1 _ _ (by simp)]; go_simp)
  have hO0 : Outs w1 (w1.alloc (.cells #[.int .i64 (p : Int), .slice none 0 0] 24)) w1.heap.size p (up (wrTo G false p 0)) :=
    ⟨(Bel.refl w1).alloc _, ⟨.slice none 0 0, by go_simp, Own2.nil _ _ _⟩, by go_simp, fun o => by go_simp, by simp, Nat.le_refl _⟩
  have hbw1 : Bel w w1 := ((Bel.refl w).alloc _).trans hb01
  have HB1 := Lib.hid hbw1
  go_wp2
  clear hb1 b0 b1
  go_loopw [6] (fun i wr => ∃ a : Nat, a ≤ p ∧ i = .int .i64 a ∧ Outs w1 wr w1.heap.size p (up (wrTo G false p a))) (fun i _ => p - (intOf i).toNat)
  case atStart => exact ⟨0, Nat.zero_le _, rfl, hO0⟩
  case round =>
    clear hO0
    obtain ⟨a, ha, rfl, hO⟩ := hrel
    obtain ⟨d0, d1⟩ := Held.out _ (hb01.trans hO.bel)
    by_cases hlt : a < p
    · have hap : (a : Int) < (p : Int) := by omega
      have hO1 : Outs w1 wr w1.heap.size p (up (wrTo G false p a ++ wrRow G false a (a + 1))) := by rw [wrRow_start, List.append_nil]; exact hO
      go_wp2
      clear d0 d1
      go_loopw [7] (fun i wr => ∃ m : Nat, a + 1 ≤ m ∧ m ≤ p ∧ i = .int .i64 m ∧ Outs w1 wr w1.heap.size p (up (wrTo G false p a ++ wrRow G false a m))) (fun i _ => p - (intOf i).toNat)
      case atStart => exact ⟨a + 1, Nat.le_refl _, by omega, by go_num, hO1⟩
      case round =>
        clear hO hO1
        obtain ⟨m, hm1, hm2, rfl, hO⟩ := hrel
        have hbw : Bel w wr := HB1.out.trans hO.bel
        obtain ⟨d0, d1⟩ := Held.out _ (hb01.trans hO.bel)
        by_cases hlm : m < p
        · have hmp : (m : Int) < (p : Int) := by omega
          obtain ⟨h, hh⟩ : ∃ h, h = hasG G a m := ⟨_, rfl⟩
          have HH := Lib.hid hh
          have HQ := Lib.hid (wrRow_succ (G := G) (b := false) (a := a) (m := m) (by omega))
          clear hh
          go_wp2_with fail
          refine (rFeud_any p A n c G a m _ (hR.bel hbw) Hn.out h60).mono ?_
          rintro e w2 ⟨rfl, hb2⟩
          rw [← HH.out]
          have hO2 := hO.beL hb2
          clear d0 d1
          cases h
          · have HQ2 := Lib.hid (show wrTo G false p a ++ wrRow G false a (m + 1) = (wrTo G false p a ++ wrRow G false a m) ++ [(a, m)] by rw [HQ.out, if_pos HH.out.symm, List.append_assoc])
            obtain ⟨v, hv, hOv⟩ := hO2.own
            have hwl : (up (wrTo G false p a ++ wrRow G false a m)).length ≤ 100 := by
              have h1 := wrTo_len G false p a
              have h2 := wrRow_len G false a m
              have h3 : p * a ≤ 7 * 7 := Nat.mul_le_mul p7 (by omega)
              rw [up_length, List.length_append]
              omega
            have HO := Lib.hid hO2
            obtain ⟨X, hX⟩ : ∃ X, X = up (wrTo G false p a ++ wrRow G false a m) := ⟨_, rfl⟩
            rw [← hX] at hOv hwl HO
            have HX := Lib.hid hX
            have hX1 := Lib.hid (show X.length + 1 ≤ maxLen by unfold maxLen; omega)
            have hX2 := Lib.hid (show (X.length + 1) * 16 ≤ 140737488355328 by omega)
            have hltw : w1.heap.size < w2.heap.size := hO2.lt
            have hfz := hO2.fz 1
            have HOv := Lib.hid hOv
            clear hX hOv hO hO2
            go_wp2_with (at_builtin; go_loud (refine wpList_append_lies _ rfl (.tmp 37) (.tmp 41) 22 rfl (w1.heap.size + 1) 45 i0 _ 2 16 Try.underlying22 hi hz0 hz1 hz2 rfl (by decide) v X.length (cel2 X) (by rfl) (HOv.out.alloc _) ⟨w2.heap.size, 0, none⟩ 1 1 [.int .i64 (a : Int), .int .i64 (m : Int)] (by rfl) rfl (newF _ _ _ _ _ rfl) (one2 _ _) (by omega) hX1.out hX2.out (by simp; omega) _ rfl ?_); intro g3 cap3 w3 hown3 hgr3 hat3 hlt3; obtain ⟨hk1, hk2, hk3⟩ := out_kept HO.out hv ((Bel.refl _).alloc _) hgr3)
            have HO3 := Lib.hid (HO.out.put hv ((Bel.refl _).alloc _) hgr3 hown3)
            clear hown3 hgr3 hat3 hlt3
            go_roundw
            case rel => exact ⟨m + 1, by omega, by omega, by go_num, by rw [HQ2.out, up_app, ← HX.out]; exact HO3.out⟩
            case measure => simp [intOf]; omega
          · have HQ2 := Lib.hid (show wrTo G false p a ++ wrRow G false a (m + 1) = wrTo G false p a ++ wrRow G false a m by rw [HQ.out, if_neg (by rw [← HH.out]; simp), List.append_nil])
            go_wp2
            go_roundw
            case rel => exact ⟨m + 1, by omega, by omega, by go_num, by rw [HQ2.out]; exact hO2⟩
            case measure => simp [intOf]; omega
        · obtain rfl : m = p := by omega
          have HQ := Lib.hid (wrTo_succ G false m a)
          go_wp2
          go_roundw
          case rel => exact ⟨a + 1, by omega, by go_num, by rw [HQ.out]; exact hO⟩
          case measure => simp [intOf]; omega
    · obtain rfl : a = p := by omega
      obtain ⟨v, hv, hOv⟩ := hO.own
      obtain ⟨A9, n9, c9, rfl, hn9⟩ := hOv.form
      have HP := Lib.hid hOv.prs
      have HN9 := Lib.hid hn9
      have HLT := Lib.hid (show ∀ b o, A9 = some ⟨b, o, none⟩ → w1.heap.size + 1 ≤ b ∧ b < wr.heap.size from fun b o e => by
        subst e
        exact World.ownsRow.lt hOv b rfl)
      obtain ⟨⟨r0, r1⟩, rf⟩ := hres.out _ hO.bel
      have rf0 := rf 0
      have rf1 := rf 1
      have c0 := hO.c0
      have hltw : w1.heap.size < wr.heap.size := hO.lt
      have hw1 := hO.bel
      have HR0 := Lib.hid r0; have HR1 := Lib.hid r1
      clear hn9 hO hOv rf
      go_wp2
      obtain ⟨q0, q1⟩ := stored2 (x := .int .i64 (a : Int)) (y := .slice A9 n9 c9) HR0.out HR1.out
      refine bodyPost_ret (v := .tuple #[.agg #[.int .i64 (a : Int), .slice A9 n9 c9], .int .i64 0]) (by simp [results, Try.results77, go_sem, q0, q1]) rfl ⟨A9, n9, c9, rfl, HN9.out, ?_, ?_, ?_⟩
      · have := HB1.out
        (repeat (first | exact Bel.refl _ | assumption | refine Bel.drew ?_ | refine Bel.drewN ?_ _ | refine Bel.alloc ?_ _ | refine Bel.setCell ?_ (by first | omega | (simp; done) | (simp; omega) | (simp at *; omega)) _ | refine Bel.trans ?_ (by assumption)))
      · refine (HP.out.far (fun b o e => ?_) _).far (fun b o e => ?_) _ <;> (have := (HLT.out b o e).1; simp; omega)
      · intro b o e
        have h1 := HLT.out b o e
        have h2 := hw1.size
        exact ⟨by omega, by rw [setCell_size, setCell_size]; exact h1.2⟩
/-- No shop, and an error. -/
def ShopErr (w : World) (x : Int) (e : Ending) (w' : World) : Prop := e = .returned (.tuple #[.agg #[.int .i64 0, .slice none 0 0], .int .i64 x]) ∧ Bel w w'
set_option maxRecDepth 100000 in
theorem opposite_err (p : Int) (A : Option Addr) (n c : Nat) (F : List (Int × Int)) (w : World) (hR : Prs w A F) (hn : F.length = n) (h60 : n ≤ 900) (he : errF p F ≠ 0) :
    Calls Try.prog 78 #[.agg #[.int .i64 p, .slice A n c]] w (ShopErr w (errF p F)) := by
  obtain ⟨x, hx⟩ : ∃ x, x = errF p F := ⟨_, rfl⟩
  have hne : (x != 0) = true := by rw [hx]; simpa using he
  rw [← hx]
  have HX := Lib.hid hx
  have Hn := Lib.hid hn
  clear he hx hn
  go_enter Try.func78, Try.ntmps78
  go_wp2_with fail
  refine (validate_any p A n c F _ (hR.bel (by (repeat (first | exact Bel.refl _ | assumption | refine Bel.drew ?_ | refine Bel.drewN ?_ _ | refine Bel.alloc ?_ _ | refine Bel.setCell ?_ (by first | omega | (simp; done) | (simp; omega) | (simp at *; omega)) _ | refine Bel.trans ?_ (by assumption))))) Hn.out h60).mono ?_
  rintro e w1 ⟨rfl, hb1⟩
  rw [← HX.out]
  have hsz2 : w.heap.size + 1 < w1.heap.size := by have := hb1.size; simp at this; omega
  have r0 : w1.cell? ⟨w.heap.size + 1, 0, none⟩ = some (.int .i64 0) := by rw [hb1.use.1 _ _ (by simp)]; go_simp
  have r1 : w1.cell? ⟨w.heap.size + 1, 1, none⟩ = some (.slice none 0 0) := by rw [hb1.use.1 _ _ (by simp)]; go_simp
  have rf0 : w1.frozen? ⟨w.heap.size + 1, 0, none⟩ = false := by rw [hb1.use.2.1 _ _ (by simp)]; go_simp
  have rf1 : w1.frozen? ⟨w.heap.size + 1, 1, none⟩ = false := by rw [hb1.use.2.1 _ _ (by simp)]; go_simp
  have HR0 := Lib.hid r0; have HR1 := Lib.hid r1
  go_wp2
  obtain ⟨q0, q1⟩ := stored2 (x := .int .i64 0) (y := .slice none 0 0) HR0.out HR1.out
  exact bodyPost_ret (v := .tuple #[.agg #[.int .i64 0, .slice none 0 0], .int .i64 x]) (by simp [results, Try.results78, go_sem, q0, q1]) rfl ⟨rfl, by (repeat (first | exact Bel.refl _ | assumption | refine Bel.drew ?_ | refine Bel.drewN ?_ _ | refine Bel.alloc ?_ _ | refine Bel.setCell ?_ (by first | omega | (simp; done) | (simp; omega) | (simp at *; omega)) _ | refine Bel.trans ?_ (by assumption)))⟩
set_option maxRecDepth 100000 in
theorem rOpposite_err (p : Int) (A : Option Addr) (n c : Nat) (F : List (Int × Int)) (w : World) (hR : Prs w A F) (hn : F.length = n) (h60 : n ≤ 900) (he : errF p F ≠ 0) :
    Calls Try.prog 77 #[.agg #[.int .i64 p, .slice A n c]] w (ShopErr w (errF p F)) := by
  obtain ⟨x, hx⟩ : ∃ x, x = errF p F := ⟨_, rfl⟩
  have hne : (x != 0) = true := by rw [hx]; simpa using he
  rw [← hx]
  have HX := Lib.hid hx
  have Hn := Lib.hid hn
  clear he hx hn
  go_enter Try.func77, Try.ntmps77
  go_wp2_with fail
  refine (rValidate_any p A n c F _ (hR.bel (by (repeat (first | exact Bel.refl _ | assumption | refine Bel.drew ?_ | refine Bel.drewN ?_ _ | refine Bel.alloc ?_ _ | refine Bel.setCell ?_ (by first | omega | (simp; done) | (simp; omega) | (simp at *; omega)) _ | refine Bel.trans ?_ (by assumption))))) Hn.out h60).mono ?_
  rintro e w1 ⟨rfl, hb1⟩
  rw [← HX.out]
  have hsz2 : w.heap.size + 1 < w1.heap.size := by have := hb1.size; simp at this; omega
  have r0 : w1.cell? ⟨w.heap.size + 1, 0, none⟩ = some (.int .i64 0) := by rw [hb1.use.1 _ _ (by simp)]; go_simp
  have r1 : w1.cell? ⟨w.heap.size + 1, 1, none⟩ = some (.slice none 0 0) := by rw [hb1.use.1 _ _ (by simp)]; go_simp
  have rf0 : w1.frozen? ⟨w.heap.size + 1, 0, none⟩ = false := by rw [hb1.use.2.1 _ _ (by simp)]; go_simp
  have rf1 : w1.frozen? ⟨w.heap.size + 1, 1, none⟩ = false := by rw [hb1.use.2.1 _ _ (by simp)]; go_simp
  have HR0 := Lib.hid r0; have HR1 := Lib.hid r1
  go_wp2
  obtain ⟨q0, q1⟩ := stored2 (x := .int .i64 0) (y := .slice none 0 0) HR0.out HR1.out
  exact bodyPost_ret (v := .tuple #[.agg #[.int .i64 0, .slice none 0 0], .int .i64 x]) (by simp [results, Try.results77, go_sem, q0, q1]) rfl ⟨rfl, by (repeat (first | exact Bel.refl _ | assumption | refine Bel.drew ?_ | refine Bel.drewN ?_ _ | refine Bel.alloc ?_ _ | refine Bel.setCell ?_ (by first | omega | (simp; done) | (simp; omega) | (simp at *; omega)) _ | refine Bel.trans ?_ (by assumption)))⟩
end Go.Proofs.Ytcndmfkbfimllaa
