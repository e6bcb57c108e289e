/-
  The statement SunKingsSaid: for all tables of numbers Kings answers as the document says; there is a king, there are not just two, those with the most wins are kings, and there is one alone exactly if it beats all; the tables stay as they were in their spare cells, too, and the known answers come out. No condition.
-/
import Derived.Test.YtahkihifgafbnaaYC
import Derived.Test.YtahkihifgafbnaaXC
namespace Go.Proofs.Ytahkihifgafbnaa.sunKings
open Go.ChangeShapes Go.WideShapes Go.ChangeAt Go.RowKit Go.Joins

set_option maxRecDepth 100000 in
set_option maxHeartbeats 4000000 in
theorem inner (A : Option Addr) (n c : Nat) (T : List (List Int)) (w : World) (hR : Tab 0 w A T) (hn : T.length = n) (hmax : n ≤ maxLen) :
    Calls Try.prog 24 #[.slice A n c] w fun e w' => e = .returned (.bool true) ∧ Bel w w' := by
  have Hn := Lib.hid hn
  go_enter Try.func24, Try.ntmps24
  go_wp2_with fail
  refine (long_any 0 A n c T _ hR Hn.out hmax).mono ?_
  rintro e w1 ⟨⟨bl, rfl⟩, hw1⟩
  subst hw1
  cases bl with
  | true =>
    go_wp2_with fail
    refine (known_any _).mono ?_
    rintro e w9 ⟨rfl, hb9⟩
    go_wp2
    go_ret
    exact ⟨rfl, hb9⟩
  | false =>
    by_cases hz : errT T = 0
    · obtain ⟨⟨h1, h7⟩, -, -⟩ := errT_zero hz
      rw [hn] at h1 h7
      have HZ := Lib.hid hz
      have hB := beats_of hn hz
      obtain ⟨f1, f2, f3, f4⟩ := most_facts hB h1
      have HF4 := Lib.hid f4
      obtain ⟨nk, hnk⟩ : ∃ nk, nk = (kingsTo T n n).length := ⟨_, rfl⟩
      rw [← hnk] at f1 f2 f3
      have HNK := Lib.hid hnk.symm
      have hkl := kingsTo_len T n n
      rw [← hnk] at hkl
      have k0 : ((nk : Int) == 0) = false := by simp; omega
      have k2 : ((nk : Int) == 2) = false := by simp; omega
      have HFE : Hid (((nk : Int) == 1) = (mostTo T n n == (n : Int) - 1)) := by
        show _ = _
        rw [Bool.eq_iff_iff, beq_iff_eq, beq_iff_eq, ← f3]
        omega
      have hnn : ((n : Int) != (n : Int)) = false := by simp
      clear hn hz hB f1 f2 f3 f4 hnk
      go_wp2_with fail
      refine (rkings_ok 0 A n c T _ hR Hn.out HZ.out).mono ?_
      rintro e w2 ⟨v2, base2, rfl, hbs2, hb2, hO2⟩
      obtain ⟨A2, n2, c2, rfl, hn2, hI2⟩ := hO2.form
      rw [HNK.out] at hn2
      subst hn2
      clear hO2
      go_wp2_with fail
      refine (kings_ok 0 A n c T _ (hR.bel hb2) Hn.out HZ.out).mono ?_
      rintro e w3 ⟨v3, base3, rfl, hbs3, hb3, hO3⟩
      obtain ⟨A3, n3, c3, rfl, hn3, hI3⟩ := hO3.form
      rw [HNK.out] at hn3
      subst hn3
      clear hO3
      have hb13 := hb2.trans hb3
      go_wp2_with fail
      refine (sameInts_any A3 A2 n3 c3 n3 c2 (kingsTo T n n) _ hI3 (hI2.bel hb3) HNK.out HNK.out (by unfold maxLen; omega)).mono ?_
      rintro e w4 ⟨rfl, hb4⟩
      have hb14 := hb13.trans hb4
      go_wp2_with fail
      refine (wins_ok 0 A n c T _ (hR.bel hb14) Hn.out HZ.out).mono ?_
      rintro e w5 ⟨g5, rfl, hg5, hb5, hrow5⟩
      have hb15 := hb14.trans hb5
      have hI35 := hI3.bel (hb4.trans hb5)
      clear hI2 hI3
      go_wp2
      go_loopw [9, 10] (fun mo i wr => ∃ k : Nat, k ≤ n ∧ i = .int .i64 k ∧ mo = .int .i64 (mostTo T n k) ∧ Bel w5 wr) (fun _ i _ => n - (intOf i).toNat)
      case atStart => exact ⟨0, Nat.zero_le _, rfl, rfl, Bel.refl _⟩
      case round =>
        obtain ⟨k, hk, rfl, rfl, hbk⟩ := hrel
        by_cases hlt : k < n
        · have hcell := (hrow5.bel hbk).cells k hlt
          have hgl := (hrow5.bel hbk).lt
          have HM := Lib.hid (show mostTo T n (k + 1) = if mostTo T n k < winN T n k then winN T n k else mostTo T n k from rfl)
          obtain ⟨x, hx⟩ : ∃ x, x = winN T n k := ⟨_, rfl⟩
          obtain ⟨mo, hmo⟩ : ∃ mo, mo = mostTo T n k := ⟨_, rfl⟩
          rw [← hx] at hcell HM
          rw [← hmo] at HM ⊢
          have hki : (k : Int) < (n : Int) := by omega
          have hk0 : (0 : Int) ≤ (k : Int) := by omega
          clear hx hmo
          by_cases hm : mo < x
          · rw [if_pos hm] at HM
            go_wp2
            go_roundw
            case rel => exact ⟨k + 1, by omega, by go_num, by rw [HM.out], hbk⟩
            case measure => simp [intOf]; omega
          · rw [if_neg hm] at HM
            go_wp2
            go_roundw
            case rel => exact ⟨k + 1, by omega, by go_num, by rw [HM.out], hbk⟩
            case measure => simp [intOf]; omega
        · obtain rfl : n = k := by omega
          obtain ⟨mo, hmo⟩ : ∃ mo, mo = mostTo T n n := ⟨_, rfl⟩
          rw [← hmo] at HFE ⊢
          have HMO := Lib.hid hmo
          obtain ⟨wq, hwq⟩ : ∃ wq : World, wq = wr := ⟨_, rfl⟩
          subst hwq
          clear hmo
          go_wp2
          go_loopw [11] (fun i wr => ∃ k : Nat, k ≤ n ∧ i = .int .i64 k ∧ Bel wq wr) (fun i _ => n - (intOf i).toNat)
          case atStart => exact ⟨0, Nat.zero_le _, rfl, Bel.refl _⟩
          case round =>
            obtain ⟨k, hk, rfl, hbj⟩ := hrel
            have hbkj := hbk.trans hbj
            by_cases hlt : k < n
            · have hcell := (hrow5.bel hbkj).cells k hlt
              have hgl := (hrow5.bel hbkj).lt
              have hki : (k : Int) < (n : Int) := by omega
              have hk0 : (0 : Int) ≤ (k : Int) := by omega
              by_cases hm : winN T n k = mo
              · have hh := HF4.out k hlt (by rw [hm, HMO.out])
                rw [hm] at hcell
                have hmm : (mo == mo) = true := by simp
                clear hm
                go_wp2_with (first | (go_at_call 51; refine (rhas_any A3 n3 c3 (kingsTo T n n) (k : Int) _ (hI35.bel hbkj) HNK.out (by unfold maxLen; omega)).mono ?_; rintro e w6 ⟨rfl, rfl⟩; rw [hh]))
                go_roundw
                case rel => exact ⟨k + 1, by omega, by go_num, hbj⟩
                case measure => simp [intOf]; omega
              · obtain ⟨x, hx⟩ : ∃ x, x = winN T n k := ⟨_, rfl⟩
                rw [← hx] at hcell hm
                have hmm : (x == mo) = false := by simpa using hm
                clear hx hm
                go_wp2
                go_roundw
                case rel => exact ⟨k + 1, by omega, by go_num, hbj⟩
                case measure => simp [intOf]; omega
            · obtain rfl : n = k := by omega
              have hb0 := (hb15.trans hbk).trans hbj
              have HEQ := HFE.out
              by_cases hone : (n3 : Int) = 1
              · have e1 : ((n3 : Int) == 1) = true := by simpa using hone
                have e2 : (mo == (n : Int) - 1) = true := by rw [← HEQ]; exact e1
                have hmo1 : mo = (n : Int) - 1 := by simpa using e2
                clear HEQ
                go_wp2_with fail
                refine (known_any _).mono ?_
                rintro e w9 ⟨rfl, hb9⟩
                go_wp2
                go_ret
                exact ⟨rfl, hb0.trans hb9⟩
              · have e1 : ((n3 : Int) == 1) = false := by simpa using hone
                have e2 : (mo == (n : Int) - 1) = false := by rw [← HEQ]; exact e1
                have hmo1 : ¬ mo = (n : Int) - 1 := by simpa using e2
                clear HEQ
                go_wp2_with fail
                refine (known_any _).mono ?_
                rintro e w9 ⟨rfl, hb9⟩
                go_wp2
                go_ret
                exact ⟨rfl, hb0.trans hb9⟩
    · have HZ := Lib.hid hz
      obtain ⟨ev, hev⟩ : ∃ x, x = errT T := ⟨_, rfl⟩
      have HEV := Lib.hid hev
      have hz' : (ev != 0) = true := by rw [hev]; simpa using hz
      clear hn hz hev
      go_wp2_with fail
      refine (rkings_err 0 A n c T _ hR Hn.out HZ.out).mono ?_
      rintro e w2 ⟨rfl, hb2⟩
      rw [← HEV.out]
      go_wp2_with fail
      refine (kings_err 0 A n c T _ (hR.bel hb2) Hn.out HZ.out).mono ?_
      rintro e w3 ⟨rfl, hb3⟩
      rw [← HEV.out]
      have hb13 := hb2.trans hb3
      go_wp2_with fail
      refine (sameInts_any none none 0 0 0 0 [] _ (.inl rfl) (.inl rfl) rfl rfl (Nat.zero_le _)).mono ?_
      rintro e w8 ⟨rfl, hb8⟩
      go_wp2_with fail
      refine (known_any _).mono ?_
      rintro e w9 ⟨rfl, hb9⟩
      go_wp2
      go_ret
      exact ⟨rfl, (hb13.trans hb8).trans hb9⟩

set_option maxRecDepth 100000 in
set_option maxHeartbeats 1000000 in
theorem walk (A : Option Addr) (n c : Nat) (Z : List RowZ) (w : World) (hx : ArgT w A n c Z) :
    Calls Try.prog 6 #[.slice A n c] w fun e w' => e = .returned (.bool true) ∧ Bel w w' := by
  obtain ⟨x1, x2, x3⟩ := hx.els
  go_enter Try.func6, Try.ntmps6
  go_wp2_with fail
  refine (keepTable_any A n c Z _ hx).mono ?_
  rintro e w1 ⟨A', n', c', rfl, hn', hb1, hr1⟩
  have HN := Lib.hid hn'; clear hn'
  go_wp2_with fail
  refine (inner A n c _ _ (x1.bel hb1) x2 x3).mono ?_
  rintro e w2 ⟨rfl, hb2⟩
  go_wp2_with fail
  refine (keptTable_any A' A n' c' n c Z _ ((hr1.low (Nat.zero_le _)).bel hb2) (hx.bel (hb1.trans hb2)) HN.out).mono ?_
  rintro e w3 ⟨rfl, hb3⟩
  go_wp2
  go_ret
  exact ⟨rfl, (hb1.trans hb2).trans hb3⟩

set_option maxRecDepth 100000 in
theorem lifted (os : Os) (started : os.Started) (H : Type) (enc : TypeId × Value → H) :
    ReturnsInHanded {} Try.checked os 6 .any (Rows.sunKingsSpec.pre6 enc Try.prog Try.f6 Rows.sunKingsRow.domain false) (Rows.sunKingsSpec.post enc Try.prog Try.f6 false true false false) := by
  refine returnsInHanded_of_change_sized (C := Try.checked) own started (by kernel_rfl) Try.func6
    (ChangeSpec.witness6 (enc := enc) (C := Try.checked) false ⟨#[], #[.slice none 0 0], []⟩ 8 (by kernel_rfl) (by kernel_rfl) (by kernel_rfl) (by kernel_rfl)) ?_
  intro W base args ds gs before hval0 hW hcnd hsz0 _
  have hval : ∀ (j : Nat) t v, Try.f6.params[j]? = some t → args[j]? = some v → Value.okWide Try.prog W .any base t v := hval0
  have hsz : (DataW.weightsEach Try.prog (Try.f6.params.toList ++ Rows.sunKingsSpec.plain.varTypes Try.prog) (ds ++ gs)).all (· ≤ reachBytes) = true := hsz0
  have hW' := hW
  obtain ⟨p, q, hA0, hV, rfl, hfz, hnd⟩ := hW
  have hA : DataW.TrodAll enc Try.prog W 0 (fun _ => true) true Try.f6.params.toList args.toList ds p := hA0
  rw [Try.params6] at hA hval hsz
  obtain ⟨v0, vs0, d0, ds0, p0, q0, hargs, rfl, rfl, h0, r0⟩ := trodAll_cons hA
  obtain ⟨rfl, rfl, rfl⟩ := trodAll_nil r0
  obtain rfl : args = #[v0] := by cases args; simp_all
  obtain ⟨rfl, rfl⟩ := trodVars_none hV
  have k0 := h0
  have lt0 : ∀ x ∈ p0, x.block < W.heap.size := by obtain ⟨m, hm⟩ := k0; exact DataW.trod_lt m _ _ _ hm
  have hr0 : ∀ k ∈ d0.weights Try.prog 22, k ≤ reachN := fun k hk => by rw [← reach_eq]; simpa using List.all_eq_true.1 hsz k (DataW.weights_mem_each (j := 0) rfl rfl k hk)
  obtain ⟨A0, n0, c0, zs0, rfl, a0⟩ := open_argT (hval 0 22 v0 rfl rfl) h0 hr0
  clear hA0 hval0
  refine (walk A0 n0 c0 zs0 W a0).mono fun e W' ⟨he, bel⟩ => ?_
  subst he
  exact ⟨_, rfl, _, _, _, [], _, [], hW', trodAll_mk1 (shut_bool Try.underlying4 _), trodAll_cons_mk (Below.trod laidOut (by kernel_rfl) (of_decide_eq_true (by kernel_rfl)) k0 bel lt0) (trodAll_mk0), rfl, Below.frame bel _, fun h => by cases h⟩

theorem over : Rows.sunKingsRow.holds Try.pinned (OpenSpec.ofChange Rows.sunKingsSpec) :=
  OpenClaim.holds_of_wide 6 Try.f6 rfl rfl rfl rfl rfl rfl rfl ⟨rfl, rfl, rfl, rfl, rfl⟩ rfl rfl rfl rfl rfl (by kernel_rfl) Try.func6 (by kernel_rfl)
    (of_decide_eq_true (by kernel_rfl)) (by unfold Func.isWrapper; rw [if_neg (of_decide_eq_false (by kernel_rfl))]; exact ⟨rfl, rfl⟩)
    (fun os started H enc _ => lifted os started H enc)

/-- The statement. -/
theorem proved : Rows.SunKingsSaid := over
end Go.Proofs.Ytahkihifgafbnaa.sunKings
