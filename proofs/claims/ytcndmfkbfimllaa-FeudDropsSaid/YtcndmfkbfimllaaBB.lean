/- feud: written, walked. -/
import Derived.Test.YtcndmfkbfimllaaBA
namespace Go.Proofs.Ytcndmfkbfimllaa
open Go.RowKit Go.Maps

/-- The pairs of a paint with greater ones, below a number, that have a feud (or have none). -/
def wrRow (G : List (Nat × Nat)) (b : Bool) (a m : Nat) : List (Nat × Nat) := ((List.range m).filter fun c => decide (a < c) && (hasG G a c == b)).map fun c => (a, c)
theorem wrRow_start (G : List (Nat × Nat)) (b : Bool) (a : Nat) : wrRow G b a (a + 1) = [] := by
  unfold wrRow
  rw [List.map_eq_nil_iff, List.filter_eq_nil_iff]
  intro c hc
  have := List.mem_range.1 hc
  rw [decide_eq_false (show ¬ a < c by omega)]
  simp
theorem wrRow_succ {G : List (Nat × Nat)} {b : Bool} {a m : Nat} (h : a < m) : wrRow G b a (m + 1) = wrRow G b a m ++ if hasG G a m = b then [(a, m)] else [] := by
  unfold wrRow
  rw [List.range_succ, List.filter_append, List.map_append]
  by_cases hh : hasG G a m = b
  · rw [if_pos hh]
    simp [h, hh]
  · rw [if_neg hh]
    simp [hh]
def wrTo (G : List (Nat × Nat)) (b : Bool) (p a : Nat) : List (Nat × Nat) := (List.range a).flatMap fun a => wrRow G b a p
theorem wrTo_succ (G : List (Nat × Nat)) (b : Bool) (p a : Nat) : wrTo G b p (a + 1) = wrTo G b p a ++ wrRow G b a p := by
  unfold wrTo
  rw [List.range_succ, List.flatMap_append]
  simp
theorem wrRow_len (G : List (Nat × Nat)) (b : Bool) (a m : Nat) : (wrRow G b a m).length ≤ m := by
  unfold wrRow
  rw [List.length_map]
  have := List.length_filter_le (fun c => decide (a < c) && (hasG G a c == b)) (List.range m)
  simpa using this
theorem wrTo_len (G : List (Nat × Nat)) (b : Bool) (p a : Nat) : (wrTo G b p a).length ≤ p * a := by
  induction a with
  | zero => simp [wrTo]
  | succ a ih =>
    have := wrRow_len G b a p
    rw [wrTo_succ, List.length_append, Nat.mul_succ]
    omega
theorem up_app (S T : List (Nat × Nat)) : up (S ++ T) = up S ++ up T := by simp [up]
def ShopOnly (w : World) (p : Int) (l : List (Int × Int)) (e : Ending) (w' : World) : Prop := ∃ A n c, e = .returned (.agg #[.int .i64 p, .slice A n c]) ∧ n = l.length ∧ Bel w w' ∧ Prs w' A l ∧ ∀ b o, A = some ⟨b, o, none⟩ → w.heap.size ≤ b ∧ b < w'.heap.size

set_option maxRecDepth 100000 in
set_option maxHeartbeats 2000000 in
theorem written_any (p : Nat) (M : Nat) (G : List (Nat × Nat)) (b : Bool) (w : World) (hF : FM w M G) (p7 : p ≤ 7) :
    Calls Try.prog 111 #[.agg #[.int .i64 (p : Int), .map (some M)], .bool b] w (ShopOnly w p (up (wrTo G b p p))) := by
  obtain ⟨i0, hi, hz0, hz1, hz2⟩ := info_parts info2F
  have Held := Lib.hid (fun w' (h : Bel (w.alloc (.cells #[.int .i64 (p : Int), .map (some M)] 70)) w') => box_shop h)
  have hpi : (p : Int) ≤ 7 := by omega
  obtain ⟨w1, hw1⟩ : ∃ w1, w1 = (w.alloc (.cells #[.int .i64 (p : Int), .map (some M)] 70)).alloc (.cells #[.int .i64 0, .slice none 0 0] 24) := ⟨_, rfl⟩
  have hb01 : Bel (w.alloc (.cells #[.int .i64 (p : Int), .map (some M)] 70)) w1 := by rw [hw1]; (repeat (first | exact Bel.refl _ | assumption | refine Bel.drew ?_ | refine Bel.drewN ?_ _ | refine Bel.alloc ?_ _ | refine Bel.setCell ?_ (by first | omega | (simp; done) | (simp; omega) | (simp at *; omega)) _ | refine Bel.trans ?_ (by assumption)))
  have hs1 : w1.heap.size = w.heap.size + 1 + 1 := by rw [hw1]; simp
  have hres := Lib.hid (fun w' (h : Bel w1 w') => show (w'.cell? ⟨w.heap.size + 1, 0, none⟩ = some (.int .i64 0) ∧ w'.cell? ⟨w.heap.size + 1, 1, none⟩ = some (.slice none 0 0)) ∧ ∀ o, w'.frozen? ⟨w.heap.size + 1, o, none⟩ = false from by
    rw [hw1] at h
    refine ⟨⟨?_, ?_⟩, fun o => ?_⟩
    · rw [h.use.1 _ _ (by simp)]; go_simp
    · rw [h.use.1 _ _ (by simp)]; go_simp
    · rw [h.use.2.1 _ _ (by simp)]; go_simp)
  have hO0 : Outs w1 (w1.alloc (.cells #[.int .i64 (p : Int), .slice none 0 0] 24)) (w.heap.size + 1 + 1) p (up (wrTo G b p 0)) := by
    rw [← hs1]
    exact ⟨(Bel.refl w1).alloc _, ⟨.slice none 0 0, by go_simp, Own2.nil _ _ _⟩, by go_simp, fun o => by go_simp, by simp, Nat.le_refl _⟩
  have HS1 := Lib.hid hs1
  have HW1 := Lib.hid hw1
  clear hs1
  go_enter Try.func111, Try.ntmps111
  go_wp2
  rw [← HW1.out]
  clear hw1
  go_loopw [13] (fun i wr => ∃ a : Nat, a ≤ p ∧ i = .int .i64 a ∧ Outs w1 wr (w.heap.size + 1 + 1) p (up (wrTo G b p a))) (fun i _ => p - (intOf i).toNat)
  case atStart => exact ⟨0, Nat.zero_le _, rfl, hO0⟩
  case round =>
    clear hO0
    obtain ⟨a, ha, rfl, hO⟩ := hrel
    obtain ⟨d0, d1⟩ := Held.out _ (hb01.trans hO.bel)
    by_cases hlt : a < p
    · have hap : (a : Int) < (p : Int) := by omega
      have hO1 : Outs w1 wr (w.heap.size + 1 + 1) p (up (wrTo G b p a ++ wrRow G b a (a + 1))) := by rw [wrRow_start, List.append_nil]; exact hO
      go_wp2
      clear d0 d1
      go_loopw [7] (fun i wr => ∃ m : Nat, a + 1 ≤ m ∧ m ≤ p ∧ i = .int .i64 m ∧ Outs w1 wr (w.heap.size + 1 + 1) p (up (wrTo G b p a ++ wrRow G b a m))) (fun i _ => p - (intOf i).toNat)
      case atStart => exact ⟨a + 1, Nat.le_refl _, by omega, by go_num, hO1⟩
      case round =>
        clear hO hO1
        obtain ⟨m, hm1, hm2, rfl, hO⟩ := hrel
        have hbw : Bel w wr := ((Bel.refl w).alloc _).trans (hb01.trans hO.bel)
        obtain ⟨d0, d1⟩ := Held.out _ (hb01.trans hO.bel)
        by_cases hlm : m < p
        · have hmp : (m : Int) < (p : Int) := by omega
          obtain ⟨h, hh⟩ : ∃ h, h = hasG G a m := ⟨_, rfl⟩
          have HH := Lib.hid hh
          have HQ := Lib.hid (wrRow_succ (G := G) (b := b) (a := a) (m := m) (by omega))
          clear hh
          go_wp2_with fail
          refine (shas_any p M G a m _ (hF.bel hbw) (by omega) (by omega)).mono ?_
          rintro e w2 ⟨rfl, hb2⟩
          rw [← HH.out]
          have hO2 := hO.beL hb2
          clear d0 d1
          by_cases hhb : h = b
          · subst hhb
            have HQ2 := Lib.hid (show wrTo G h p a ++ wrRow G h a (m + 1) = (wrTo G h p a ++ wrRow G h a m) ++ [(a, m)] by rw [HQ.out, if_pos HH.out.symm, List.append_assoc])
            obtain ⟨v, hv, hOv⟩ := hO2.own
            have hwl : (up (wrTo G h p a ++ wrRow G h a m)).length ≤ 100 := by
              have h1 := wrTo_len G h p a
              have h2 := wrRow_len G h a m
              have h3 : p * a ≤ 7 * 7 := Nat.mul_le_mul p7 (by omega)
              rw [up_length, List.length_append]
              omega
            have HO := Lib.hid hO2
            obtain ⟨X, hX⟩ : ∃ X, X = up (wrTo G h p a ++ wrRow G h a m) := ⟨_, rfl⟩
            rw [← hX] at hOv hwl HO
            have HX := Lib.hid hX
            have hX1 := Lib.hid (show X.length + 1 ≤ maxLen by unfold maxLen; omega)
            have hX2 := Lib.hid (show (X.length + 1) * 16 ≤ 140737488355328 by omega)
            have hltw : w.heap.size + 1 + 1 < w2.heap.size := hO2.lt
            have hfz := hO2.fz 1
            have HOv := Lib.hid hOv
            clear hX hOv hO hO2
            go_wp2_with (at_builtin; go_loud (refine wpList_append_lies _ rfl (.tmp 31) (.tmp 35) 22 rfl (w.heap.size + 1 + 1 + 1) 45 i0 _ 2 16 Try.underlying22 hi hz0 hz1 hz2 rfl (by decide) v X.length (cel2 X) (by rfl) (HOv.out.alloc _) ⟨w2.heap.size, 0, none⟩ 1 1 [.int .i64 (a : Int), .int .i64 (m : Int)] (by rfl) rfl (newF _ _ _ _ _ rfl) (one2 _ _) (by omega) hX1.out hX2.out (by simp; omega) _ rfl ?_); intro g3 cap3 w3 hown3 hgr3 hat3 hlt3; obtain ⟨hk1, hk2, hk3⟩ := out_kept HO.out hv ((Bel.refl _).alloc _) hgr3)
            have HO3 := Lib.hid (HO.out.put hv ((Bel.refl _).alloc _) hgr3 hown3)
            clear hown3 hgr3 hat3 hlt3
            go_roundw
            case rel => exact ⟨m + 1, by omega, by omega, by go_num, by rw [HQ2.out, up_app, ← HX.out]; exact HO3.out⟩
            case measure => simp [intOf]; omega
          · have hhn : (h == b) = false := by simpa using hhb
            have HQ2 := Lib.hid (show wrTo G b p a ++ wrRow G b a (m + 1) = wrTo G b p a ++ wrRow G b a m by rw [HQ.out, if_neg (by rw [← HH.out]; exact hhb), List.append_nil])
            clear hhb
            go_wp2
            go_roundw
            case rel => exact ⟨m + 1, by omega, by omega, by go_num, by rw [HQ2.out]; exact hO2⟩
            case measure => simp [intOf]; omega
        · obtain rfl : m = p := by omega
          have HQ := Lib.hid (wrTo_succ G b m a)
          go_wp2
          go_roundw
          case rel => exact ⟨a + 1, by omega, by go_num, by rw [HQ.out]; exact hO⟩
          case measure => simp [intOf]; omega
    · obtain rfl : a = p := by omega
      obtain ⟨v, hv, hOv⟩ := hO.own
      obtain ⟨A9, n9, c9, rfl, hn9⟩ := hOv.form
      have HP := Lib.hid hOv.prs
      have HN9 := Lib.hid hn9
      have HLT := Lib.hid (show ∀ b o, A9 = some ⟨b, o, none⟩ → w.heap.size + 1 + 1 + 1 ≤ b ∧ b < wr.heap.size from fun b o e => by
        subst e
        exact World.ownsRow.lt hOv b rfl)
      obtain ⟨⟨r0, r1⟩, rf⟩ := hres.out _ hO.bel
      have rf0 := rf 0
      have rf1 := rf 1
      have c0 := hO.c0
      have hltw : w.heap.size + 1 + 1 < wr.heap.size := hO.lt
      have hbw : Bel w wr := ((Bel.refl w).alloc _).trans (hb01.trans hO.bel)
      have HR0 := Lib.hid r0; have HR1 := Lib.hid r1
      clear hn9 hO hOv rf
      go_wp2
      obtain ⟨q0, q1⟩ := stored2 (x := .int .i64 (a : Int)) (y := .slice A9 n9 c9) HR0.out HR1.out
      refine bodyPost_ret (v := .agg #[.int .i64 (a : Int), .slice A9 n9 c9]) (by simp [results, Try.results111, go_sem, q0, q1]) rfl ⟨A9, n9, c9, rfl, HN9.out, by (repeat (first | exact Bel.refl _ | assumption | refine Bel.drew ?_ | refine Bel.drewN ?_ _ | refine Bel.alloc ?_ _ | refine Bel.setCell ?_ (by first | omega | (simp; done) | (simp; omega) | (simp at *; omega)) _ | refine Bel.trans ?_ (by assumption))), ?_, ?_⟩
      · refine (HP.out.far (fun b o e => ?_) _).far (fun b o e => ?_) _ <;> (have := (HLT.out b o e).1; simp; omega)
      · intro b o e
        have h1 := HLT.out b o e
        exact ⟨by omega, by simp [World.setCell]; exact h1.2⟩
end Go.Proofs.Ytcndmfkbfimllaa
