/-
  The statement WeighFromMarksSaid: for all tables of numbers FromMarks answers as the document says, Marks gives the table back from the plan, the tables stay as they were in their spare cells, too, and the known answers come out. No condition.
-/
import Derived.Test.YtmckoehkekkldaaAW
import Derived.Test.YtmckoehkekkldaaAT
import Derived.Test.YtmckoehkekkldaaAJ
import Derived.Test.YtmckoehkekkldaaQ
import Derived.Test.YtmckoehkekkldaaR
import Derived.Test.YtmckoehkekkldaaZ
namespace Go.Proofs.Ytmckoehkekkldaa.weighFromMarks
open Go.ChangeShapes Go.WideShapes Go.ChangeAt Go.RowKit Go.Joins

set_option maxRecDepth 100000 in
set_option maxHeartbeats 1000000 in
theorem inner (A : Option Addr) (n c : Nat) (T : List (List Int)) (w : World) (hR : Tab 0 w A T) (hn : T.length = n) (hmax : n ≤ maxLen) :
    Calls Try.prog 25 #[.slice A n c] w fun e w' => e = .returned (.bool true) ∧ Bel w w' := by
  have Hn := Lib.hid hn
  have h63 : (n : Int) ≤ 9223372036854775807 := by unfold maxLen at hmax; omega
  clear hn
  by_cases h50 : n > 50
  · have hi50 : (n : Int) > 50 := by omega
    go_enter Try.func25, Try.ntmps25
    go_wp2_with fail
    refine (known_any _).mono ?_
    rintro e w9 ⟨rfl, hb9⟩
    go_wp2
    go_ret
    exact ⟨rfl, hb9⟩
  have hi50 : ¬ (n : Int) > 50 := by omega
  go_enter Try.func25, Try.ntmps25
  go_wp2
  go_loop [3] (fun i => ∃ k : Nat, k ≤ n ∧ i = .int .i64 k) (fun i => n - (intOf i).toNat)
  case atStart => exact ⟨0, Nat.zero_le _, rfl⟩
  case round =>
    obtain ⟨k, hk, rfl⟩ := hrel
    by_cases hlt : k < n
    · obtain ⟨b, o, l, A1, n1, c1, rfl, hbl, hg, q1, hI, hl1, hx1⟩ := hR.at_ (k := k) (by rw [Hn.out]; exact hlt)
      have hki : (k : Int) < (n : Int) := by omega
      have hk0 : (0 : Int) ≤ (k : Int) := by omega
      clear hg hl1 hx1
      by_cases g1 : n1 > 50
      · have gi1 : (n1 : Int) > 50 := by omega
        go_wp2_with fail
        refine (known_any _).mono ?_
        rintro e w9 ⟨rfl, hb9⟩
        go_wp2
        go_ret
        exact ⟨rfl, hb9⟩
      · have gi1 : ¬ (n1 : Int) > 50 := by omega
        go_wp2
        go_round
        case rel => exact ⟨k + 1, by omega, by go_num⟩
        case measure => simp [intOf]; omega
    · obtain rfl : n = k := by omega
      by_cases hz : errF T = 0
      · have hG := errF_good hz
        have HG := Lib.hid hG
        have HM := Lib.hid hG.marks
        have HZ := Lib.hid hz
        clear hz hG
        go_wp2_with fail
        refine (rFromMarks_any 0 A n c T _ hR Hn.out hmax).mono ?_
        rintro e w2 ⟨A2, n2, c2, rfl, hn2, hb2, hP2⟩
        rw [if_pos HZ.out] at hn2 hP2
        rw [HZ.out]
        have HN2 := Lib.hid hn2; have HP2 := Lib.hid hP2
        clear hn2 hP2
        go_wp2_with fail
        refine (fromMarks_good 0 n A c T _ (hR.bel hb2) Hn.out HZ.out).mono ?_
        rintro e w3 ⟨b3, rfl, hb3, hP3⟩
        have HP3 := Lib.hid hP3
        have hq3 := HG.out.few
        clear hP3
        go_wp2_with fail
        refine (same_any _ _ (some ⟨b3, 0, none⟩) A2 (wide T) (wide T) n2 c2 (planT T (wide T)) _ HP3.out (HP2.out.bel hb3) (planT_length _ _) HN2.out.symm (by unfold maxLen; omega)).mono ?_
        rintro e w4 ⟨rfl, hb4⟩
        have hb24 := (hb2.trans hb3).trans hb4
        go_wp2_with fail
        refine (marks_ok _ n (some ⟨b3, 0, none⟩) (wide T) (wide T) (planT T (wide T)) _ (HP3.out.bel hb4) (planT_length _ _) (by rw [← Hn.out]; exact HG.out.good)).mono ?_
        rintro e w5 ⟨A5, c5, rfl, hb5, hT5⟩
        rw [← Hn.out, HM.out] at hT5
        have HT5 := Lib.hid hT5
        clear hT5
        go_wp2_with fail
        refine (sameLists_any _ _ A5 A n c5 n c T _ HT5.out (hR.bel (hb24.trans hb5)) Hn.out Hn.out hmax).mono ?_
        rintro e w6 ⟨rfl, hb6⟩
        go_wp2_with fail
        refine (known_any _).mono ?_
        rintro e w9 ⟨rfl, hb9⟩
        go_wp2
        go_ret
        exact ⟨rfl, ((hb24.trans hb5).trans hb6).trans hb9⟩
      · have HZ := Lib.hid hz
        obtain ⟨ev, hev⟩ : ∃ x, x = errF T := ⟨_, rfl⟩
        have HEV := Lib.hid hev
        have hz' : (ev != 0) = true := by rw [hev]; simpa using hz
        clear hz hev
        go_wp2_with fail
        refine (rFromMarks_any 0 A n c T _ hR Hn.out hmax).mono ?_
        rintro e w2 ⟨A2, n2, c2, rfl, hn2, hb2, hP2⟩
        rw [if_neg HZ.out] at hn2 hP2
        rw [← HEV.out]
        obtain rfl : n2 = 0 := hn2
        go_wp2_with fail
        refine (fromMarks_err 0 A n c T _ (hR.bel hb2) Hn.out hmax HZ.out).mono ?_
        rintro e w3 ⟨rfl, hb3⟩
        rw [← HEV.out]
        go_wp2_with fail
        refine (same_any 0 _ none A2 0 0 0 c2 [] _ (.inl rfl) (hP2.bel hb3) rfl rfl (Nat.zero_le _)).mono ?_
        rintro e w4 ⟨rfl, hb4⟩
        go_wp2_with fail
        refine (known_any _).mono ?_
        rintro e w9 ⟨rfl, hb9⟩
        go_wp2
        go_ret
        exact ⟨rfl, ((hb2.trans hb3).trans hb4).trans hb9⟩

set_option maxRecDepth 100000 in
set_option maxHeartbeats 1000000 in
theorem walk (A : Option Addr) (n c : Nat) (Z : List RowZ) (w : World) (hx : ArgT w A n c Z) :
    Calls Try.prog 7 #[.slice A n c] w fun e w' => e = .returned (.bool true) ∧ Bel w w' := by
  obtain ⟨x1, x2, x3⟩ := hx.els
  go_enter Try.func7, Try.ntmps7
  go_wp2_with fail
  refine (keepTable_any A n c Z _ hx).mono ?_
  rintro e w1 ⟨A', n', c', rfl, hn', hb1, hr1⟩
  have HN := Lib.hid hn'; clear hn'
  go_wp2_with fail
  refine (inner A n c _ _ (x1.bel hb1) x2 x3).mono ?_
  rintro e w2 ⟨rfl, hb2⟩
  go_wp2_with fail
  refine (keptTable_any A' A n' c' n c Z _ ((hr1.low (Nat.zero_le _)).bel hb2) (hx.bel (hb1.trans hb2)) HN.out).mono ?_
  rintro e w3 ⟨rfl, hb3⟩
  go_wp2
  go_ret
  exact ⟨rfl, (hb1.trans hb2).trans hb3⟩

set_option maxRecDepth 100000 in
theorem lifted (os : Os) (started : os.Started) (H : Type) (enc : TypeId × Value → H) :
    ReturnsInHanded {} Try.checked os 7 .any (Rows.weighFromMarksSpec.pre6 enc Try.prog Try.f7 Rows.weighFromMarksRow.domain false) (Rows.weighFromMarksSpec.post enc Try.prog Try.f7 false true false false) := by
  refine returnsInHanded_of_change_sized (C := Try.checked) own started (by kernel_rfl) Try.func7
    (ChangeSpec.witness6 (enc := enc) (C := Try.checked) false ⟨#[], #[.slice none 0 0], []⟩ 8 (by kernel_rfl) (by kernel_rfl) (by kernel_rfl) (by kernel_rfl)) ?_
  intro W base args ds gs before hval0 hW hcnd hsz0 _
  have hval : ∀ (j : Nat) t v, Try.f7.params[j]? = some t → args[j]? = some v → Value.okWide Try.prog W .any base t v := hval0
  have hsz : (DataW.weightsEach Try.prog (Try.f7.params.toList ++ Rows.weighFromMarksSpec.plain.varTypes Try.prog) (ds ++ gs)).all (· ≤ reachBytes) = true := hsz0
  have hW' := hW
  obtain ⟨p, q, hA0, hV, rfl, hfz, hnd⟩ := hW
  have hA : DataW.TrodAll enc Try.prog W 0 (fun _ => true) true Try.f7.params.toList args.toList ds p := hA0
  rw [Try.params7] at hA hval hsz
  obtain ⟨v0, vs0, d0, ds0, p0, q0, hargs, rfl, rfl, h0, r0⟩ := trodAll_cons hA
  obtain ⟨rfl, rfl, rfl⟩ := trodAll_nil r0
  obtain rfl : args = #[v0] := by cases args; simp_all
  obtain ⟨rfl, rfl⟩ := trodVars_none hV
  have k0 := h0
  have lt0 : ∀ x ∈ p0, x.block < W.heap.size := by obtain ⟨m, hm⟩ := k0; exact DataW.trod_lt m _ _ _ hm
  have hr0 : ∀ k ∈ d0.weights Try.prog 33, k ≤ reachN := fun k hk => by rw [← reach_eq]; simpa using List.all_eq_true.1 hsz k (DataW.weights_mem_each (j := 0) rfl rfl k hk)
  obtain ⟨A0, n0, c0, zs0, rfl, a0⟩ := open_argT (hval 0 33 v0 rfl rfl) h0 hr0
  clear hA0 hval0
  refine (walk A0 n0 c0 zs0 W a0).mono fun e W' ⟨he, bel⟩ => ?_
  subst he
  exact ⟨_, rfl, _, _, _, [], _, [], hW', trodAll_mk1 (shut_bool Try.underlying4 _), trodAll_cons_mk (Below.trod laidOut (by kernel_rfl) (of_decide_eq_true (by kernel_rfl)) k0 bel lt0) (trodAll_mk0), rfl, Below.frame bel _, fun h => by cases h⟩

theorem over : Rows.weighFromMarksRow.holds Try.pinned (OpenSpec.ofChange Rows.weighFromMarksSpec) :=
  OpenClaim.holds_of_wide 7 Try.f7 rfl rfl rfl rfl rfl rfl rfl ⟨rfl, rfl, rfl, rfl, rfl⟩ rfl rfl rfl rfl rfl (by kernel_rfl) Try.func7 (by kernel_rfl)
    (of_decide_eq_true (by kernel_rfl)) (by unfold Func.isWrapper; rw [if_neg (of_decide_eq_false (by kernel_rfl))]; exact ⟨rfl, rfl⟩)
    (fun os started H enc _ => lifted os started H enc)

/-- The statement. -/
theorem proved : Rows.WeighFromMarksSaid := over
end Go.Proofs.Ytmckoehkekkldaa.weighFromMarks
