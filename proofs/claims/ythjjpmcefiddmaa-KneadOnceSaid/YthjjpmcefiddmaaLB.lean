/-
  The statement KneadOnceSaid: for all lists both folds and both unfoldings answer as the document says, in new memory, the list stays as it was in its spare cells, too, and the known answers come out. No condition.
-/
import Derived.Test.YthjjpmcefiddmaaK
import Derived.Test.YthjjpmcefiddmaaM
namespace Go.Proofs.Ythjjpmcefiddmaa.kneadOnce
open Go.ChangeShapes Go.WideShapes Go.ChangeAt Go.RowKit Go.Joins

attribute [local go_sem] Oper.semAt_some

theorem wpList_runI {ops : Array Oper} {rest : List Oper} {o : Oper} {a : Act} {w : World} {Q : Exit → Act → World → Prop} (hgd : o.guard = none) (s x : Operand)
    (ho : o.op = .call { callee := .builtin .append, args := #[s, x], argTypes := #[22, 22] }) (v u r : Value)
    (hs : a.eval s = v) (hx : a.eval x = u) (hr : (Builtin.append_ #[22, 22] o.type #[v, u]).run Try.prog w = .ok r w) (h : wpList Try.prog ops Q rest (a.put o.dst r) w) : wpList Try.prog ops Q (o :: rest) a w :=
  wpList_plain hgd fun _ hK => by
    unfold Oper.wp execOp
    simp only [ho, resolve, invoke, builtin, Sem.run_bind, Sem.run_pure, Result.andThen_ok, List.map_toArray, List.map_cons, List.map_nil, hs, hx, hr]
    exact hK _ _ h
theorem set_row {w : World} {g m i : Nat} {f : Nat → Int} (h : Row w g m m f) (hi : i < m) (x : Int) : ∃ f', Row (w.setCell ⟨g, i, none⟩ (.int .i64 x)) g m m f' := ⟨_, h.put hi x⟩
set_option maxRecDepth 100000 in
set_option maxHeartbeats 8000000 in
theorem inner_ok (h : Nat) (A : Option Addr) (c : Nat) (l : List Int) (w : World) (hR : Ints w A l) (hn : l.length = 2 * h) (h1 : 1 ≤ h) (h16 : h ≤ 16) :
    Calls Try.prog 17 #[.slice A (2 * h) c] w fun e w' => e = .returned (.bool true) ∧ Bel w w' := by
  obtain ⟨i0, hi, hz0, hz1, hz2⟩ := info_parts info1I
  have HL := Lib.hid (decide_eq_false (show ¬ 100 < 2 * h by omega))
  have Hn := Lib.hid hn
  have HE := Lib.hid (eD_half h1 h16)
  have hmx : 2 * h ≤ maxLen := by unfold maxLen; omega
  obtain ⟨b1, b2, rfl, hbl1, hnw⟩ := hR.news (by intro e; rw [e] at hn; simp at hn; omega)
  have hnews : Hid (∀ w', Bel w w' → ∀ j u, (l.map fun x => Value.int .i64 x)[j]? = some u → w'.cell? ((⟨b1, b2, none⟩ : Addr).add j) = some u) := by
    intro w' hb' j u hj
    have := hnw j u hj
    rw [Go.Addr.add_mid] at this ⊢
    rw [hb'.use.1 _ _ hbl1]
    exact this
  have hlit : Hid ((w.alloc (.cells #[] 3)).ownsRow w.heap.size 3 1 (.slice (some ⟨w.heap.size, 0, none⟩) 0 0) 0 []) := World.ownsRow_lit w #[] 0 (Nat.le_refl _) (by unfold maxLen; omega) rfl
  have hX3 := Lib.hid (show 0 + 2 * h ≤ maxLen by unfold maxLen; omega)
  have hX4 := Lib.hid (show (0 + 2 * h) * 8 ≤ 140737488355328 by omega)
  have hpos : 0 < 2 * h := by omega
  clear hnw hn
  go_enter Try.func17, Try.ntmps17
  go_wp2_with fail
  refine (long_any _ (2 * h) c _).mono ?_
  rintro e w1 ⟨rfl, hw1⟩
  subst hw1
  rw [HL.out]
  go_wp2_with (at_builtin; go_loud (refine wpList_append_lies _ rfl (.tmp 24) (.tmp 25) 22 rfl w.heap.size 3 i0 _ 1 8 Try.underlying22 hi hz0 hz1 hz2 rfl (by decide) _ 0 [] (by rfl) hlit.out ⟨b1, b2, none⟩ (2 * h) c (l.map fun x => .int .i64 x) (by rfl) (by rw [List.length_map, Hn.out, Nat.mul_one]) (hnews.out _ (by (repeat (first | exact Bel.refl _ | assumption | refine Bel.drew ?_ | refine Bel.drewN ?_ _ | refine Bel.alloc ?_ _ | refine Bel.setCell ?_ (by first | omega | (simp; done) | (simp; omega) | (simp at *; omega)) _ | refine Bel.trans ?_ (by assumption))))) (one_map _) hpos hX3.out hX4.out (by simp) _ rfl ?_); intro g3 cap3 w3; rw [show 0 + 2 * h = 2 * h from Nat.zero_add _, List.nil_append]; intro hown3 hgr3 hat3 hlt3)
  have hb3 := grown_own (w := w) ((Bel.refl w).alloc _) hlit.out (Nat.le_refl _) hgr3
  have hI3 := ints_row hown3
  have hcap := (own_cap hown3).1
  clear hown3 hgr3 hat3 hlt3 hnews hlit hX3 hX4 hi hz0 hz1 hz2
  go_wp2_with fail
  refine (rOne_ok h 0 _ c l _ h1 h16 (by omega) (hR.bel hb3) Hn.out).mono ?_
  rintro e w4 ⟨g4, rfl, hg4, hb4, hr4⟩
  have hJ4 := hr4.byF
  go_wp2_with fail
  refine (rOne_ok h 1 _ c l _ h1 h16 (by omega) (hR.bel (hb3.trans hb4)) Hn.out).mono ?_
  rintro e w5 ⟨g5, rfl, hg5, hb5, hr5⟩
  have hJ5 := hr5.byF
  go_wp2_with fail
  refine (rUnOne_ok h 0 _ c l _ h1 h16 (by omega) (hR.bel ((hb3.trans hb4).trans hb5)) Hn.out).mono ?_
  rintro e w6 ⟨g6, rfl, hg6, hb6, hr6⟩
  have hJ6 := hr6.byF
  have hb36 : Bel w3 w6 := (hb4.trans hb5).trans hb6
  go_wp2_with fail
  refine (rUnOne_ok h 1 _ c l _ h1 h16 (by omega) (hR.bel (hb3.trans hb36)) Hn.out).mono ?_
  rintro e w7 ⟨g7, rfl, hg7, hb7, hr7⟩
  have hJ7 := hr7.byF
  have hb37 := hb36.trans hb7
  obtain ⟨bo, oo, ho, hS⟩ := Seg.of_ints hI3 (by rw [Hn.out]; omega)
  rw [Hn.out] at hS
  injection ho with ho
  injection ho with ho1 ho2
  subst ho1 ho2
  go_wp2_with fail
  refine (kOut_ok g3 0 h cap3 _ _ (hS.bel hb37) h1 h16 hcap).mono ?_
  rintro e w8 ⟨g8, rfl, hg8, hb8, hr8⟩
  have hb38 := hb37.trans hb8
  go_wp2_with fail
  refine (kIn_ok g3 0 h cap3 _ _ (hS.bel hb38) h1 h16 hcap).mono ?_
  rintro e w9 ⟨g9, rfl, hg9, hb9, hr9⟩
  have hb39 := hb38.trans hb9
  go_wp2_with fail
  refine (kUnOut_ok g3 0 h cap3 _ _ (hS.bel hb39) h1 h16 hcap).mono ?_
  rintro e wa ⟨ga, rfl, hga, hba, hra⟩
  have hb3a := hb39.trans hba
  go_wp2_with fail
  refine (kUnIn_ok g3 0 h cap3 _ _ (hS.bel hb3a) h1 h16 hcap).mono ?_
  rintro e wb ⟨gb, rfl, hgb, hbb, hrb⟩
  have hb3b := hb3a.trans hbb
  go_wp2_with fail
  refine (validate_any _ (2 * h) c _).mono ?_
  rintro e wx ⟨rfl, hwx⟩
  subst hwx
  rw [HE.out]
  go_wp2_with fail
  refine (rvalidate_any _ (2 * h) c _).mono ?_
  rintro e wx ⟨rfl, hwx⟩
  subst hwx
  rw [HE.out]
  have hK8 := hr8.byF; have hK9 := hr9.byF; have hKa := hra.byF; have hKb := hrb.byF
  have hba2 : Bel w8 wb := (hb9.trans hba).trans hbb
  go_wp2_with fail
  refine (sameInts_any (some ⟨g8, 0, none⟩) (some ⟨g4, 0, none⟩) (2 * h) (2 * h) (2 * h) (2 * h) _ _ (hK8.bel hba2) (hJ4.bel ((hb5.trans hb6).trans ((hb7.trans hb8).trans hba2))) (byF_len _ _ _) (byF_len _ _ _) hmx).mono ?_
  rintro e wc ⟨rfl, hbc⟩
  go_wp2_with fail
  refine (sameInts_any (some ⟨g9, 0, none⟩) (some ⟨g5, 0, none⟩) (2 * h) (2 * h) (2 * h) (2 * h) _ _ (hK9.bel ((hba.trans hbb).trans hbc)) (hJ5.bel (((hb6.trans hb7).trans (hb8.trans hba2)).trans hbc)) (byF_len _ _ _) (byF_len _ _ _) hmx).mono ?_
  rintro e wd ⟨rfl, hbd⟩
  go_wp2_with fail
  refine (sameInts_any (some ⟨ga, 0, none⟩) (some ⟨g6, 0, none⟩) (2 * h) (2 * h) (2 * h) (2 * h) _ _ (hKa.bel ((hbb.trans hbc).trans hbd)) (hJ6.bel (((hb7.trans hb8).trans hba2).trans (hbc.trans hbd))) (byF_len _ _ _) (byF_len _ _ _) hmx).mono ?_
  rintro e we ⟨rfl, hbe⟩
  go_wp2_with fail
  refine (sameInts_any (some ⟨gb, 0, none⟩) (some ⟨g7, 0, none⟩) (2 * h) (2 * h) (2 * h) (2 * h) _ _ (hKb.bel ((hbc.trans hbd).trans hbe)) (hJ7.bel ((hb8.trans hba2).trans ((hbc.trans hbd).trans hbe))) (byF_len _ _ _) (byF_len _ _ _) hmx).mono ?_
  rintro e wf ⟨rfl, hbf⟩
  have hcf : Bel wb wf := (hbc.trans hbd).trans (hbe.trans hbf)
  have hrf := hr8.bel (hba2.trans hcf)
  have h7f : Bel w7 wf := (hb8.trans hba2).trans hcf
  clear hK8 hK9 hKa hKb hJ4 hJ5 hJ6 hJ7 hr4 hr5 hr6 hr7 hr9 hra hrb hr8
  go_wp2
  go_loopw [20] (fun i wr => ∃ k : Nat, k ≤ 2 * h ∧ i = .int .i64 k ∧ Bel w7 wr ∧ ∃ f, Row wr g8 (2 * h) (2 * h) f) (fun i _ => 2 * h - (intOf i).toNat)
  case atStart => exact ⟨0, Nat.zero_le _, rfl, h7f, _, hrf⟩
  case round =>
    clear hrf h7f
    obtain ⟨k, hk, rfl, hb, f, hrow⟩ := hrel
    by_cases hlt : k < 2 * h
    · have hki : (k : Int) < 2 * (h : Int) := by omega
      obtain ⟨v, hv⟩ := hrow.all k hlt
      have hfz := hrow.fz k
      have hgz := hrow.lt
      go_wp2
      go_roundw
      case rel => exact ⟨k + 1, by omega, by go_num, by (repeat (first | exact Bel.refl _ | assumption | refine Bel.drew ?_ | refine Bel.drewN ?_ _ | refine Bel.alloc ?_ _ | refine Bel.setCell ?_ (by first | omega | (simp; done) | (simp; omega) | (simp at *; omega)) _ | refine Bel.trans ?_ (by assumption))), by first | exact set_row hrow hlt _ | (obtain ⟨f', hf'⟩ := set_row hrow hlt (-1); exact ⟨f', hf'.drew⟩)⟩
      case measure => simp [intOf]; omega
    · obtain rfl : k = 2 * h := by omega
      have hb3r : Bel w3 wr := hb37.trans hb
      go_wp2_with fail
      refine (sameInts_any (some ⟨g3, 0, none⟩) (some ⟨b1, b2, none⟩) (2 * h) cap3 (2 * h) c l _ (hI3.bel hb3r) (hR.bel (hb3.trans hb3r)) Hn.out Hn.out hmx).mono ?_
      rintro e wg ⟨rfl, hbg⟩
      go_wp2_with fail
      refine (known_any _).mono ?_
      rintro e wh ⟨rfl, hbh⟩
      go_wp2
      go_ret
      exact ⟨rfl, ((hb3.trans hb3r).trans hbg).trans hbh⟩
set_option maxRecDepth 100000 in
set_option maxHeartbeats 8000000 in
theorem inner_bad (A : Option Addr) (n c : Nat) (l : List Int) (w : World) (hR : Ints w A l) (hn : l.length = n) (hpos : 0 < n) (h100 : ¬ 100 < n) (hE : eD (n : Int) ≠ 0) :
    Calls Try.prog 17 #[.slice A n c] w fun e w' => e = .returned (.bool true) ∧ Bel w w' := by
  obtain ⟨i0, hi, hz0, hz1, hz2⟩ := info_parts info1I
  have HL := Lib.hid (decide_eq_false h100)
  have Hn := Lib.hid hn
  have HE := Lib.hid hE
  have HE1 := Lib.hid (eD_one hE)
  have hmx : n ≤ maxLen := by unfold maxLen; omega
  obtain ⟨b1, b2, rfl, hbl1, hnw⟩ := hR.news (by intro e; rw [e] at hn; simp at hn; omega)
  have hnews : Hid (∀ w', Bel w w' → ∀ j u, (l.map fun x => Value.int .i64 x)[j]? = some u → w'.cell? ((⟨b1, b2, none⟩ : Addr).add j) = some u) := by
    intro w' hb' j u hj
    have := hnw j u hj
    rw [Go.Addr.add_mid] at this ⊢
    rw [hb'.use.1 _ _ hbl1]
    exact this
  have hlit : Hid ((w.alloc (.cells #[] 3)).ownsRow w.heap.size 3 1 (.slice (some ⟨w.heap.size, 0, none⟩) 0 0) 0 []) := World.ownsRow_lit w #[] 0 (Nat.le_refl _) (by unfold maxLen; omega) rfl
  have hX3 := Lib.hid (show 0 + n ≤ maxLen by unfold maxLen; omega)
  have hX4 := Lib.hid (show (0 + n) * 8 ≤ 140737488355328 by omega)
  clear hnw hn h100 hE
  go_enter Try.func17, Try.ntmps17
  go_wp2_with fail
  refine (long_any _ n c _).mono ?_
  rintro e w1 ⟨rfl, hw1⟩
  subst hw1
  rw [HL.out]
  go_wp2_with (at_builtin; go_loud (refine wpList_append_lies _ rfl (.tmp 24) (.tmp 25) 22 rfl w.heap.size 3 i0 _ 1 8 Try.underlying22 hi hz0 hz1 hz2 rfl (by decide) _ 0 [] (by rfl) hlit.out ⟨b1, b2, none⟩ n c (l.map fun x => .int .i64 x) (by rfl) (by rw [List.length_map, Hn.out, Nat.mul_one]) (hnews.out _ (by (repeat (first | exact Bel.refl _ | assumption | refine Bel.drew ?_ | refine Bel.drewN ?_ _ | refine Bel.alloc ?_ _ | refine Bel.setCell ?_ (by first | omega | (simp; done) | (simp; omega) | (simp at *; omega)) _ | refine Bel.trans ?_ (by assumption))))) (one_map _) hpos hX3.out hX4.out (by simp) _ rfl ?_); intro g3 cap3 w3; rw [show 0 + n = n from Nat.zero_add _, List.nil_append]; intro hown3 hgr3 hat3 hlt3)
  have hb3 := grown_own (w := w) ((Bel.refl w).alloc _) hlit.out (Nat.le_refl _) hgr3
  have hI3 := ints_row hown3
  obtain ⟨O3, hO3⟩ : ∃ O3 : Option Addr, O3 = some ⟨g3, 0, none⟩ := ⟨_, rfl⟩
  rw [← hO3] at hI3 ⊢
  obtain ⟨O1, hO1⟩ : ∃ O1 : Option Addr, O1 = some ⟨b1, b2, none⟩ := ⟨_, rfl⟩
  rw [← hO1] at hR ⊢
  clear hown3 hgr3 hat3 hlt3 hnews hlit hX3 hX4 hi hz0 hz1 hz2 hO3 hO1
  go_wp2_with fail
  refine (rOne_err O1 n c 0 _ HE.out).mono ?_
  rintro e w4 ⟨rfl, hb4⟩
  go_wp2_with fail
  refine (rOne_err O1 n c 1 _ HE.out).mono ?_
  rintro e w5 ⟨rfl, hb5⟩
  go_wp2_with fail
  refine (rUnOne_err O1 n c 0 _ HE.out).mono ?_
  rintro e w6 ⟨rfl, hb6⟩
  go_wp2_with fail
  refine (rUnOne_err O1 n c 1 _ HE.out).mono ?_
  rintro e w7 ⟨rfl, hb7⟩
  go_wp2_with fail
  refine (kOut_err O3 n _ _ HE.out).mono ?_
  rintro e w8 ⟨rfl, hb8⟩
  go_wp2_with fail
  refine (kIn_err O3 n _ _ HE.out).mono ?_
  rintro e w9 ⟨rfl, hb9⟩
  go_wp2_with fail
  refine (kUnOut_err O3 n _ _ HE.out).mono ?_
  rintro e wa ⟨rfl, hba⟩
  go_wp2_with fail
  refine (kUnIn_err O3 n _ _ HE.out).mono ?_
  rintro e wb ⟨rfl, hbb⟩
  go_wp2_with fail
  refine (validate_any _ n c _).mono ?_
  rintro e wx ⟨rfl, hwx⟩
  subst hwx
  rw [HE1.out]
  go_wp2_with fail
  refine (rvalidate_any _ n c _).mono ?_
  rintro e wx ⟨rfl, hwx⟩
  subst hwx
  rw [HE1.out]
  go_wp2_with fail
  refine (sameInts_any none none 0 0 0 0 [] _ (.inl rfl) (.inl rfl) rfl rfl (Nat.zero_le _)).mono ?_
  rintro e wc ⟨rfl, hbc⟩
  go_wp2_with fail
  refine (sameInts_any none none 0 0 0 0 [] _ (.inl rfl) (.inl rfl) rfl rfl (Nat.zero_le _)).mono ?_
  rintro e wd ⟨rfl, hbd⟩
  go_wp2_with fail
  refine (sameInts_any none none 0 0 0 0 [] _ (.inl rfl) (.inl rfl) rfl rfl (Nat.zero_le _)).mono ?_
  rintro e we ⟨rfl, hbe⟩
  go_wp2_with fail
  refine (sameInts_any none none 0 0 0 0 [] _ (.inl rfl) (.inl rfl) rfl rfl (Nat.zero_le _)).mono ?_
  rintro e wf ⟨rfl, hbf⟩
  have hb3f : Bel w3 wf := (((hb4.trans hb5).trans (hb6.trans hb7)).trans ((hb8.trans hb9).trans (hba.trans hbb))).trans ((hbc.trans hbd).trans (hbe.trans hbf))
  clear hb4 hb5 hb6 hb7 hb8 hb9 hba hbb hbc hbd hbe hbf
  go_wp2
  go_loopw [20] (fun i wr => i = .int .i64 0 ∧ Bel wf wr) (fun _ _ => 0)
  case atStart => exact ⟨rfl, Bel.refl _⟩
  case round =>
    obtain ⟨rfl, hb⟩ := hrel
    have hb3r : Bel w3 wr := hb3f.trans hb
    go_wp2_with fail
    refine (sameInts_any O3 O1 n _ n c l _ (hI3.bel hb3r) (hR.bel (hb3.trans hb3r)) Hn.out Hn.out hmx).mono ?_
    rintro e wg ⟨rfl, hbg⟩
    go_wp2_with fail
    refine (known_any _).mono ?_
    rintro e wh ⟨rfl, hbh⟩
    go_wp2
    go_ret
    exact ⟨rfl, ((hb3.trans hb3r).trans hbg).trans hbh⟩
set_option maxRecDepth 100000 in
set_option maxHeartbeats 8000000 in
theorem inner_empty (A : Option Addr) (n c : Nat) (l : List Int) (w : World) (hR : Ints w A l) (hn : l.length = n) (hn0 : n = 0) :
    Calls Try.prog 17 #[.slice A n c] w fun e w' => e = .returned (.bool true) ∧ Bel w w' := by
  have HL := Lib.hid (decide_eq_false (show ¬ 100 < n by omega))
  have Hn := Lib.hid hn
  have HN0 := Lib.hid hn0
  have hE : eD (n : Int) ≠ 0 := by rw [hn0]; decide
  have HE := Lib.hid hE
  have HE1 := Lib.hid (eD_one hE)
  obtain ⟨z, hz⟩ : ∃ z : Nat, z = 0 := ⟨_, rfl⟩
  have HZ := Lib.hid hz
  have HEZ := Lib.hid (show eD (z : Int) ≠ 0 by rw [hz]; decide)
  have HNZ := Lib.hid (show l.length = z by omega)
  have hmx : z ≤ maxLen := by rw [hz]; exact Nat.zero_le _
  have hrun : ∀ W : World, (Builtin.append_ #[22, 22] 22 #[.slice (some ⟨w.heap.size, 0, none⟩) 0 0, .slice A n c]).run Try.prog W = .ok (.slice (some ⟨w.heap.size, 0, none⟩) z z) W := fun W => by
    rw [hn0, hz]; exact run_app0I W _ _ _ _
  clear hn hE hn0 hz
  go_enter Try.func17, Try.ntmps17
  go_wp2_with fail
  refine (long_any _ n c _).mono ?_
  rintro e w1 ⟨rfl, hw1⟩
  subst hw1
  rw [HL.out]
  go_wp2_with (at_builtin; go_loud (refine wpList_runI rfl (.tmp 24) (.tmp 25) rfl _ _ _ (by rfl) (by rfl) (hrun _) ?_))
  obtain ⟨w3, hw3⟩ : ∃ w3, w3 = w.alloc (.cells #[] 3) := ⟨_, rfl⟩
  have hb3 : Bel w w3 := by rw [hw3]; (repeat (first | exact Bel.refl _ | assumption | refine Bel.drew ?_ | refine Bel.drewN ?_ _ | refine Bel.alloc ?_ _ | refine Bel.setCell ?_ (by first | omega | (simp; done) | (simp; omega) | (simp at *; omega)) _ | refine Bel.trans ?_ (by assumption)))
  obtain ⟨O3, hO3⟩ : ∃ O3 : Option Addr, O3 = some ⟨w.heap.size, 0, none⟩ := ⟨_, rfl⟩
  have hI3 : Ints w3 O3 l := .inl (List.eq_nil_of_length_eq_zero (by rw [HNZ.out, HZ.out]))
  rw [← hw3, ← hO3]
  clear hw3 hO3 hrun
  go_wp2_with fail
  refine (rOne_err A n c 0 _ HE.out).mono ?_
  rintro e w4 ⟨rfl, hb4⟩
  go_wp2_with fail
  refine (rOne_err A n c 1 _ HE.out).mono ?_
  rintro e w5 ⟨rfl, hb5⟩
  go_wp2_with fail
  refine (rUnOne_err A n c 0 _ HE.out).mono ?_
  rintro e w6 ⟨rfl, hb6⟩
  go_wp2_with fail
  refine (rUnOne_err A n c 1 _ HE.out).mono ?_
  rintro e w7 ⟨rfl, hb7⟩
  go_wp2_with fail
  refine (kOut_err O3 z _ _ HEZ.out).mono ?_
  rintro e w8 ⟨rfl, hb8⟩
  go_wp2_with fail
  refine (kIn_err O3 z _ _ HEZ.out).mono ?_
  rintro e w9 ⟨rfl, hb9⟩
  go_wp2_with fail
  refine (kUnOut_err O3 z _ _ HEZ.out).mono ?_
  rintro e wa ⟨rfl, hba⟩
  go_wp2_with fail
  refine (kUnIn_err O3 z _ _ HEZ.out).mono ?_
  rintro e wb ⟨rfl, hbb⟩
  go_wp2_with fail
  refine (validate_any _ n c _).mono ?_
  rintro e wx ⟨rfl, hwx⟩
  subst hwx
  rw [HE1.out]
  go_wp2_with fail
  refine (rvalidate_any _ n c _).mono ?_
  rintro e wx ⟨rfl, hwx⟩
  subst hwx
  rw [HE1.out]
  go_wp2_with fail
  refine (sameInts_any none none 0 0 0 0 [] _ (.inl rfl) (.inl rfl) rfl rfl (Nat.zero_le _)).mono ?_
  rintro e wc ⟨rfl, hbc⟩
  go_wp2_with fail
  refine (sameInts_any none none 0 0 0 0 [] _ (.inl rfl) (.inl rfl) rfl rfl (Nat.zero_le _)).mono ?_
  rintro e wd ⟨rfl, hbd⟩
  go_wp2_with fail
  refine (sameInts_any none none 0 0 0 0 [] _ (.inl rfl) (.inl rfl) rfl rfl (Nat.zero_le _)).mono ?_
  rintro e we ⟨rfl, hbe⟩
  go_wp2_with fail
  refine (sameInts_any none none 0 0 0 0 [] _ (.inl rfl) (.inl rfl) rfl rfl (Nat.zero_le _)).mono ?_
  rintro e wf ⟨rfl, hbf⟩
  have hb3f : Bel w3 wf := (((hb4.trans hb5).trans (hb6.trans hb7)).trans ((hb8.trans hb9).trans (hba.trans hbb))).trans ((hbc.trans hbd).trans (hbe.trans hbf))
  clear hb4 hb5 hb6 hb7 hb8 hb9 hba hbb hbc hbd hbe hbf
  go_wp2
  go_loopw [20] (fun i wr => i = .int .i64 0 ∧ Bel wf wr) (fun _ _ => 0)
  case atStart => exact ⟨rfl, Bel.refl _⟩
  case round =>
    obtain ⟨rfl, hb⟩ := hrel
    have hb3r : Bel w3 wr := hb3f.trans hb
    go_wp2_with fail
    refine (sameInts_any O3 A z _ n c l _ (hI3.bel hb3r) (hR.bel (hb3.trans hb3r)) HNZ.out Hn.out hmx).mono ?_
    rintro e wg ⟨rfl, hbg⟩
    go_wp2_with fail
    refine (known_any _).mono ?_
    rintro e wh ⟨rfl, hbh⟩
    go_wp2
    go_ret
    exact ⟨rfl, ((hb3.trans hb3r).trans hbg).trans hbh⟩
theorem inner (A : Option Addr) (n c : Nat) (l : List Int) (w : World) (hR : Ints w A l) (hn : l.length = n) (_hc : n ≤ c) (_hmax : n ≤ maxLen) :
    Calls Try.prog 17 #[.slice A n c] w fun e w' => e = .returned (.bool true) ∧ Bel w w' := by
  by_cases h100 : 100 < n
  · have HL := Lib.hid (decide_eq_true h100)
    go_enter Try.func17, Try.ntmps17
    go_wp2_with fail
    refine (long_any A n c _).mono ?_
    rintro e w1 ⟨rfl, rfl⟩
    rw [HL.out]
    go_wp2_with fail
    refine (known_any _).mono ?_
    rintro e w9 ⟨rfl, hb9⟩
    go_wp2
    go_ret
    exact ⟨rfl, hb9⟩
  · by_cases hE : eD (n : Int) = 0
    · obtain ⟨h, h1, h16, h3⟩ := eD_zero hE
      obtain rfl : n = 2 * h := by omega
      exact inner_ok h A c l w hR hn h1 h16
    · rcases Nat.eq_zero_or_pos n with h0 | hpos
      · exact inner_empty A n c l w hR hn h0
      · exact inner_bad A n c l w hR hn hpos h100 hE

set_option maxRecDepth 100000 in
set_option maxHeartbeats 1000000 in
theorem walk (A0 : Option Addr) (n0 c0 : Nat) (zs0 : List Int) (w : World) (hx0 : ArgI w A0 n0 c0 zs0) :
    Calls Try.prog 3 #[.slice A0 n0 c0] w fun e w' => e = .returned (.bool true) ∧ Bel w w' := by
  obtain ⟨y0, z0, m0⟩ := hx0.els
  go_enter Try.func3, Try.ntmps3
  go_wp2_with fail
  refine (keepInts_any A0 n0 c0 zs0 _ (hx0.ints.bel (Bel.refl w)) hx0.len hx0.le hx0.nil hx0.reach).mono ?_
  rintro e k0 ⟨B0, q0, d0, rfl, hq0, hk0, hI0, hlo0⟩
  have HQ0 := Lib.hid hq0; clear hq0 hlo0
  have hc0 : Bel w k0 := (Bel.refl w).trans hk0
  go_wp2_with fail
  refine (inner A0 n0 c0 _ _ (y0.bel hc0) z0 hx0.le m0).mono ?_
  rintro e w4 ⟨rfl, hb4⟩
  have hw4 : Bel w w4 := hc0.trans hb4
  go_wp2_with fail
  refine (keptInts_any B0 A0 q0 d0 n0 c0 zs0 _ (hI0.bel hb4) (hx0.ints.bel hw4) HQ0.out.symm hx0.len hx0.le hx0.nil (reachN_le hx0.reach (by omega)).1).mono ?_
  rintro e u0 ⟨rfl, hu0⟩
  have hv0 := hw4.trans hu0
  go_wp2
  go_ret
  exact ⟨rfl, hv0⟩

set_option maxRecDepth 100000 in
theorem lifted (os : Os) (started : os.Started) (H : Type) (enc : TypeId × Value → H) :
    ReturnsInHanded {} Try.checked os 3 .any (Rows.kneadOnceSpec.pre6 enc Try.prog Try.f3 Rows.kneadOnceRow.domain false) (Rows.kneadOnceSpec.post enc Try.prog Try.f3 false true false false) := by
  refine returnsInHanded_of_change_sized (C := Try.checked) own started (by kernel_rfl) Try.func3
    (ChangeSpec.witness6 (enc := enc) (C := Try.checked) false ⟨#[], #[.slice none 0 0], []⟩ 8 (by kernel_rfl) (by kernel_rfl) (by kernel_rfl) (by kernel_rfl)) ?_
  intro W base args ds gs before hval0 hW hcnd hsz0 _
  have hval : ∀ (j : Nat) t v, Try.f3.params[j]? = some t → args[j]? = some v → Value.okWide Try.prog W .any base t v := hval0
  have hsz : (DataW.weightsEach Try.prog (Try.f3.params.toList ++ Rows.kneadOnceSpec.plain.varTypes Try.prog) (ds ++ gs)).all (· ≤ reachBytes) = true := hsz0
  have hW' := hW
  obtain ⟨p, q, hA0, hV, rfl, hfz, hnd⟩ := hW
  have hA : DataW.TrodAll enc Try.prog W 0 (fun _ => true) true Try.f3.params.toList args.toList ds p := hA0
  rw [Try.params3] at hA hval hsz
  obtain ⟨v0, vs0, d0, ds0, p0, q0, hargs, rfl, rfl, h0, r0⟩ := trodAll_cons hA
  obtain ⟨rfl, rfl, rfl⟩ := trodAll_nil r0
  obtain rfl : args = #[v0] := by cases args; simp_all
  obtain ⟨rfl, rfl⟩ := trodVars_none hV
  have k0 := h0
  have lt0 : ∀ x ∈ p0, x.block < W.heap.size := by obtain ⟨m, hm⟩ := k0; exact DataW.trod_lt m _ _ _ hm
  have hr0 : ∀ k ∈ d0.weights Try.prog 22, k ≤ reachN := fun k hk => by rw [← reach_eq]; simpa using List.all_eq_true.1 hsz k (DataW.weights_mem_each (j := 0) rfl rfl k hk)
  obtain ⟨A0, n0, c0, zs0, rfl, a0⟩ := open_argI (hval 0 22 v0 rfl rfl) h0 hr0
  clear hA0 hval0
  refine (walk A0 n0 c0 zs0 W a0).mono fun e W' ⟨he, bel⟩ => ?_
  subst he
  exact ⟨_, rfl, _, _, _, [], _, [], hW', trodAll_mk1 (shut_bool Try.underlying4 _), trodAll_cons_mk (Below.trod laidOut (by kernel_rfl) (of_decide_eq_true (by kernel_rfl)) k0 bel lt0) (trodAll_mk0), rfl, Below.frame bel _, fun h => by cases h⟩

theorem over : Rows.kneadOnceRow.holds Try.pinned (OpenSpec.ofChange Rows.kneadOnceSpec) :=
  OpenClaim.holds_of_wide 3 Try.f3 rfl rfl rfl rfl rfl rfl rfl ⟨rfl, rfl, rfl, rfl, rfl⟩ rfl rfl rfl rfl rfl (by kernel_rfl) Try.func3 (by kernel_rfl)
    (of_decide_eq_true (by kernel_rfl)) (by unfold Func.isWrapper; rw [if_neg (of_decide_eq_false (by kernel_rfl))]; exact ⟨rfl, rfl⟩)
    (fun os started H enc _ => lifted os started H enc)

/-- The statement. -/
theorem proved : Rows.KneadOnceSaid := over
end Go.Proofs.Ythjjpmcefiddmaa.kneadOnce
