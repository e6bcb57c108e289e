/-
  The statement SunUpsetsSaid: for all tables and lists of numbers Upsets answers as the document says; the upsets of an order and of its reverse are together the pairs, no order has fewer than Fewest says; both stay as they were in their spare cells, too, and the known answers come out. No condition.
-/
import Derived.Test.YtahkihifgafbnaaYF
import Derived.Test.YtahkihifgafbnaaXC
namespace Go.Proofs.Ytahkihifgafbnaa.sunUpsets
open Go.ChangeShapes Go.WideShapes Go.ChangeAt Go.RowKit Go.Joins

theorem form' {e base : Nat} {w : World} {v : Value} {l : List Int} (h : Own1 e base w v l) : ∃ A n c, v = .slice A n c ∧ n = l.length ∧ n ≤ c ∧ Ints w A l := by
  rcases h.2 with ⟨rfl, h0⟩ | ⟨g, cap, cur, rfl, hb, hg, hn, hm, hs, ht⟩
  · exact ⟨none, 0, 0, rfl, by omega, Nat.le_refl _, .inl (List.eq_nil_of_length_eq_zero h0)⟩
  · obtain ⟨A, n, c, hv, hl, hi⟩ := h.form
    cases hv
    exact ⟨_, _, _, rfl, rfl, hn, hi⟩
set_option maxRecDepth 100000 in
set_option maxHeartbeats 4000000 in
theorem inner (A : Option Addr) (n c : Nat) (T : List (List Int)) (B : Option Addr) (q d : Nat) (l : List Int) (w : World) (hR : Tab 0 w A T) (hn : T.length = n) (hmax : n ≤ maxLen) (hJ : Ints w B l) (hq : l.length = q) (hqd : q ≤ d) (hqm : q ≤ maxLen) :
    Calls Try.prog 27 #[.slice A n c, .slice B q d] w fun e w' => e = .returned (.bool true) ∧ Bel w w' := by
  have Hn := Lib.hid hn
  have Hq := Lib.hid hq
  go_enter Try.func27, Try.ntmps27
  go_wp2_with fail
  refine (long_any 0 A n c T _ hR Hn.out hmax).mono ?_
  rintro e w1 ⟨⟨bl, rfl⟩, hw1⟩
  subst hw1
  cases bl with
  | true =>
    go_wp2_with fail
    refine (known_any _).mono ?_
    rintro e w9 ⟨rfl, hb9⟩
    go_wp2
    go_ret
    exact ⟨rfl, hb9⟩
  | false =>
    go_wp2_with fail
    refine (many_any B q d _).mono ?_
    rintro e w2 ⟨rfl, hw2⟩
    subst hw2
    cases decide (40 < q) with
    | true =>
      go_wp2_with fail
      refine (known_any _).mono ?_
      rintro e w9 ⟨rfl, hb9⟩
      go_wp2
      go_ret
      exact ⟨rfl, hb9⟩
    | false =>
      by_cases h0 : errO T l = 0
      · obtain ⟨hE, hO⟩ := errO_parts h0
        obtain ⟨⟨h1, h7⟩, -, -⟩ := errT_zero hE
        rw [hn] at h1 h7 hO
        obtain rfl : q = n := by rw [← hq]; exact hO.len
        have hB := beats_of hn hE
        have hp := upsC_pair hB l hO.rng hO.dif
        rw [hq] at hp
        have m1 := bestS_min (T := T) hO
        have m2 := bestS_min (T := T) hO.rev
        have u1 := upsC_le T l
        have u2 := upsC_le T l.reverse
        rw [List.length_reverse] at u2
        rw [hq] at u1 u2
        have u3 : q * q ≤ 49 := Nat.mul_le_mul h7 h7
        have hE2 : errO T l.reverse = 0 := by unfold errO; rw [if_pos hE, hn, if_pos hO.rev]
        have HV : Hid (∀ (e : Ending) (w w' : World), UpsV w T l e w' → e = .returned (.tuple #[.int .i64 (upsC T l : Int), .int .i64 0]) ∧ Bel w w') := fun e w w' h => by
          unfold UpsV at h
          rw [h0, if_pos rfl] at h
          exact h
        have HV2 : Hid (∀ (e : Ending) (w w' : World), UpsV w T l.reverse e w' → e = .returned (.tuple #[.int .i64 (upsC T l.reverse : Int), .int .i64 0]) ∧ Bel w w') := fun e w w' h => by
          unfold UpsV at h
          rw [hE2, if_pos rfl] at h
          exact h
        have hquo : Int.tdiv ((q : Int) * ((q : Int) - 1)) 2 = (upsC T l : Int) + (upsC T l.reverse : Int) := by
          have e : (q : Int) * ((q : Int) - 1) = 2 * ((upsC T l : Int) + (upsC T l.reverse : Int)) := by
            have : ((q * (q - 1) : Nat) : Int) = ((2 * (upsC T l + upsC T l.reverse) : Nat) : Int) := by rw [hp]
            rw [Int.natCast_mul, Int.natCast_sub h1, Int.natCast_mul, Int.natCast_add] at this
            exact this
          rw [e]
          exact Int.mul_tdiv_cancel_left _ (by decide)
        have HE := Lib.hid hE
        obtain ⟨a, ha⟩ : ∃ a, a = upsC T l := ⟨_, rfl⟩
        obtain ⟨b, hb⟩ : ∃ b, b = upsC T l.reverse := ⟨_, rfl⟩
        obtain ⟨f, hf⟩ : ∃ f, f = (bestS T q).2 := ⟨_, rfl⟩
        rw [← ha] at hp m1 u1 hquo HV
        rw [← hb] at hp m2 u2 hquo HV2
        rw [← hf] at m1 m2
        have HF := Lib.hid hf
        have ab : (a : Int) + (b : Int) ≤ 98 := by omega
        have fa : (f : Int) ≤ (a : Int) := by omega
        have fb : (f : Int) ≤ (b : Int) := by omega
        have aa : ((a : Int) != (a : Int)) = false := by simp
        have qq : (q : Int) * ((q : Int) - 1) ≤ 49 := by
          have : (q : Int) * ((q : Int) - 1) ≤ 7 * 7 := Int.mul_le_mul (by omega) (by omega) (by omega) (by omega)
          omega
        have qq0 : 0 ≤ (q : Int) * ((q : Int) - 1) := Int.mul_nonneg (by omega) (by omega)
        have HP := Lib.hid hquo
        clear hE hO hn hq hB hp m1 m2 u1 u2 u3 hE2 h0 ha hb hf hquo
        go_wp2_with fail
        refine (rUpsets_any 0 A q c T B q d l _ hR Hn.out hmax hJ Hq.out hqm).mono ?_
        rintro e w3 h3
        obtain ⟨rfl, hb3⟩ := HV.out _ _ _ h3
        clear h3
        go_wp2_with fail
        refine (upsets_any 0 A q c T B q d l _ (hR.bel hb3) Hn.out hmax (hJ.bel hb3) Hq.out hqd hqm).mono ?_
        rintro e w4 h4
        obtain ⟨rfl, hb4'⟩ := HV.out _ _ _ h4
        have hb4 := hb3.trans hb4'
        clear h4 hb3 hb4'
        have hw4 := hb4.size
        obtain ⟨i0, hi, hz0, hz1, hz2⟩ := info_parts info1I
        go_wp2
        go_loopw [9, 10] (fun u i wr => ∃ m : Nat, m ≤ q ∧ i = .int .i64 ((m : Int) - 1) ∧ Bel w4 wr ∧ Own1 3 w4.heap.size wr u (l.reverse.take (q - m))) (fun _ i _ => (intOf i + 1).toNat)
        case atStart => exact ⟨q, Nat.le_refl _, rfl, Bel.refl _, by rw [Nat.sub_self]; exact Own1.nil _ _ _⟩
        case round =>
          obtain ⟨m, hm, rfl, hb, hO⟩ := hrel
          cases m with
          | succ m =>
            rw [show ((m + 1 : Nat) : Int) - 1 = (m : Int) by omega]
            obtain ⟨b5, o5, x, rfl, hbl, hg, hc1⟩ := (hJ.bel (hb4.trans hb)).at_ (k := m) (by rw [Hq.out]; omega)
            have HQ : Hid (l.reverse.take (q - m) = l.reverse.take (q - (m + 1)) ++ [x]) := by
              show _ = _
              rw [show q - m = q - (m + 1) + 1 by omega]
              exact take_at (by rw [List.getElem?_reverse (by rw [Hq.out]; omega), Hq.out, show q - 1 - (q - (m + 1)) = m by omega]; exact hg)
            have hlen : (l.reverse.take (q - (m + 1))).length ≤ 7 := by rw [List.length_take]; omega
            obtain ⟨L, hL⟩ : ∃ L, L = l.reverse.take (q - (m + 1)) := ⟨_, rfl⟩
            rw [← hL] at hO hlen HQ
            have hbs := hb.size
            have hX1 := Lib.hid (show L.length + 1 ≤ maxLen by unfold maxLen; omega)
            have hX2 := Lib.hid (show (L.length + 1) * 8 ≤ 140737488355328 by omega)
            have hmq : (m : Int) < (q : Int) := by omega
            have hm0 : (0 : Int) ≤ (m : Int) := by omega
            clear hL hg hlen
            go_wp2_with (at_builtin; go_loud (refine wpList_append_lies _ rfl (.tmp 52) (.tmp 57) 26 rfl w4.heap.size 3 i0 _ 1 8 Try.underlying26 hi hz0 hz1 hz2 rfl (by decide) u9 L.length (L.map fun x => .int .i64 x) (by rfl) (hO.alloc _) ⟨wr.heap.size, 0, none⟩ 1 1 [.int .i64 x] (by rfl) rfl (new1 wr _ _ _ rfl) (one1 _) (by omega) hX1.out hX2.out (Nat.le_trans hbs (by simp)) _ rfl ?_); intro g3 cap3 w3 hown3 hgr3 _ hlt3)
            obtain ⟨hB3, hs3, hblk⟩ := after_app hb (Nat.le_refl _) hO hbs hgr3
            have hO3 := Own1.snoc hown3
            clear hown3 hgr3 hlt3 hblk hO
            go_wp2
            go_roundw
            case rel => exact ⟨m, by omega, by go_num, hB3, by rw [HQ.out]; exact hO3⟩
            case measure => first | (simp [intOf]; done) | (simp [intOf]; omega)
          | zero =>
            have HL := Lib.hid (show l.reverse.take (q - 0) = l.reverse by rw [List.take_of_length_le]; rw [List.length_reverse, Hq.out]; omega)
            rw [HL.out] at hO
            obtain ⟨A2, n2, c2, rfl, hn2, hnc2, hI2⟩ := form' hO
            rw [List.length_reverse, Hq.out] at hn2
            subst hn2
            have Hq2 := Lib.hid (show l.reverse.length = n2 by rw [List.length_reverse]; exact Hq.out)
            have hb5 := hb4.trans hb
            clear hO
            go_wp2_with fail
            refine (upsets_any 0 A n2 c T A2 n2 c2 l.reverse _ (hR.bel hb5) Hn.out hmax hI2 Hq2.out hnc2 hqm).mono ?_
            rintro e w6 h6
            obtain ⟨rfl, hb6'⟩ := HV2.out _ _ _ h6
            have hb6 := hb5.trans hb6'
            clear h6 hb6'
            go_wp2_with fail
            refine (fewest_ok 0 A n2 c T _ (hR.bel hb6) Hn.out HE.out).mono ?_
            rintro e w7 ⟨rfl, hb7'⟩
            rw [← HF.out]
            have hb7 := hb6.trans hb7'
            have hquo := HP.out
            have hqe : ((a : Int) + (b : Int) == (a : Int) + (b : Int)) = true := by simp
            go_wp2_with fail
            refine (known_any _).mono ?_
            rintro e w9 ⟨rfl, hb9⟩
            go_wp2
            go_ret
            exact ⟨rfl, hb7.trans hb9⟩
      · have HV := Lib.hid h0
        obtain ⟨ev, hev⟩ : ∃ x, x = errO T l := ⟨_, rfl⟩
        have HV : Hid (∀ (e : Ending) (w w' : World), UpsV w T l e w' → e = .returned (.tuple #[.int .i64 0, .int .i64 ev]) ∧ Bel w w') := fun e w w' h => by
          unfold UpsV at h
          rw [if_neg h0, ← hev] at h
          exact h
        have hz' : (ev != 0) = true := by rw [hev]; simpa using h0
        have hee : (ev != ev) = false := by simp
        clear hn hq h0 hev
        go_wp2_with fail
        refine (rUpsets_any 0 A n c T B q d l _ hR Hn.out hmax hJ Hq.out hqm).mono ?_
        rintro e w3 h3
        obtain ⟨rfl, hb3⟩ := HV.out _ _ _ h3
        clear h3
        go_wp2_with fail
        refine (upsets_any 0 A n c T B q d l _ (hR.bel hb3) Hn.out hmax (hJ.bel hb3) Hq.out hqd hqm).mono ?_
        rintro e w4 h4
        obtain ⟨rfl, hb4'⟩ := HV.out _ _ _ h4
        have hb4 := hb3.trans hb4'
        clear h4 hb3 hb4'
        go_wp2_with fail
        refine (known_any _).mono ?_
        rintro e w9 ⟨rfl, hb9⟩
        go_wp2
        go_ret
        exact ⟨rfl, hb4.trans hb9⟩

set_option maxRecDepth 100000 in
set_option maxHeartbeats 1000000 in
theorem walk (A : Option Addr) (n c : Nat) (Z : List RowZ) (B : Option Addr) (q d : Nat) (zs : List Int) (w : World) (hx : ArgT w A n c Z) (hy : ArgI w B q d zs) :
    Calls Try.prog 9 #[.slice A n c, .slice B q d] w fun e w' => e = .returned (.bool true) ∧ Bel w w' := by
  obtain ⟨x1, x2, x3⟩ := hx.els
  obtain ⟨y1, y2, y3⟩ := hy.els
  go_enter Try.func9, Try.ntmps9
  go_wp2_with fail
  refine (keepTable_any A n c Z _ hx).mono ?_
  rintro e w1 ⟨A', n', c', rfl, hn', hb1, hr1⟩
  have HN := Lib.hid hn'; clear hn'
  go_wp2_with fail
  refine (keepInts_any B q d zs _ (hy.ints.bel hb1) hy.len hy.le hy.nil hy.reach).mono ?_
  rintro e w2 ⟨A2, n2, c2, rfl, hn2, hb2', hI2, hlo2⟩
  have HN2 := Lib.hid hn2; clear hn2 hlo2
  have hb2 := hb1.trans hb2'
  go_wp2_with fail
  refine (inner A n c _ B q d _ _ (x1.bel hb2) x2 x3 (y1.bel hb2) y2 hy.le y3).mono ?_
  rintro e w3 ⟨rfl, hb3⟩
  have hb13 := hb2.trans hb3
  go_wp2_with fail
  refine (keptTable_any A' A n' c' n c Z _ ((hr1.low (Nat.zero_le _)).bel (hb2'.trans hb3)) (hx.bel hb13) HN.out).mono ?_
  rintro e w4 ⟨rfl, hb4'⟩
  have hb14 := hb13.trans hb4'
  go_wp2_with fail
  refine (keptInts_any A2 B n2 c2 q d zs _ (hI2.bel (hb3.trans hb4')) (hy.ints.bel hb14) HN2.out.symm hy.len hy.le hy.nil (reachN_le hy.reach (by omega)).1).mono ?_
  rintro e w5 ⟨rfl, hb5⟩
  go_wp2
  go_ret
  exact ⟨rfl, hb14.trans hb5⟩

set_option maxRecDepth 100000 in
theorem lifted (os : Os) (started : os.Started) (H : Type) (enc : TypeId × Value → H) :
    ReturnsInHanded {} Try.checked os 9 .any (Rows.sunUpsetsSpec.pre6 enc Try.prog Try.f9 Rows.sunUpsetsRow.domain false) (Rows.sunUpsetsSpec.post enc Try.prog Try.f9 false true false false) := by
  refine returnsInHanded_of_change_sized (C := Try.checked) own started (by kernel_rfl) Try.func9
    (ChangeSpec.witness6 (enc := enc) (C := Try.checked) false ⟨#[], #[.slice none 0 0, .slice none 0 0], []⟩ 8 (by kernel_rfl) (by kernel_rfl) (by kernel_rfl) (by kernel_rfl)) ?_
  intro W base args ds gs before hval0 hW hcnd hsz0 _
  have hval : ∀ (j : Nat) t v, Try.f9.params[j]? = some t → args[j]? = some v → Value.okWide Try.prog W .any base t v := hval0
  have hsz : (DataW.weightsEach Try.prog (Try.f9.params.toList ++ Rows.sunUpsetsSpec.plain.varTypes Try.prog) (ds ++ gs)).all (· ≤ reachBytes) = true := hsz0
  have hW' := hW
  obtain ⟨p, q, hA0, hV, rfl, hfz, hnd⟩ := hW
  have hA : DataW.TrodAll enc Try.prog W 0 (fun _ => true) true Try.f9.params.toList args.toList ds p := hA0
  rw [Try.params9] at hA hval hsz
  obtain ⟨v0, vs0, d0, ds0, p0, q0, hargs, rfl, rfl, h0, r0⟩ := trodAll_cons hA
  obtain ⟨v1, vs1, d1, ds1, p1, q1, rfl, rfl, rfl, h1, r1⟩ := trodAll_cons r0
  obtain ⟨rfl, rfl, rfl⟩ := trodAll_nil r1
  obtain rfl : args = #[v0, v1] := by cases args; simp_all
  obtain ⟨rfl, rfl⟩ := trodVars_none hV
  have k0 := h0
  have lt0 : ∀ x ∈ p0, x.block < W.heap.size := by obtain ⟨m, hm⟩ := k0; exact DataW.trod_lt m _ _ _ hm
  have k1 := h1
  have lt1 : ∀ x ∈ p1, x.block < W.heap.size := by obtain ⟨m, hm⟩ := k1; exact DataW.trod_lt m _ _ _ hm
  have hr0 : ∀ k ∈ d0.weights Try.prog 22, k ≤ reachN := fun k hk => by rw [← reach_eq]; simpa using List.all_eq_true.1 hsz k (DataW.weights_mem_each (j := 0) rfl rfl k hk)
  obtain ⟨A0, n0, c0, zs0, rfl, a0⟩ := open_argT (hval 0 22 v0 rfl rfl) h0 hr0
  have hr1 : ∀ k ∈ d1.weights Try.prog 26, k ≤ reachN := fun k hk => by rw [← reach_eq]; simpa using List.all_eq_true.1 hsz k (DataW.weights_mem_each (j := 1) rfl rfl k hk)
  obtain ⟨A1, n1, c1, zs1, rfl, a1⟩ := open_argI (hval 1 26 v1 rfl rfl) h1 hr1
  clear hA0 hval0
  refine (walk A0 n0 c0 zs0 A1 n1 c1 zs1 W a0 a1).mono fun e W' ⟨he, bel⟩ => ?_
  subst he
  exact ⟨_, rfl, _, _, _, [], _, [], hW', trodAll_mk1 (shut_bool Try.underlying4 _), trodAll_cons_mk (Below.trod laidOut (by kernel_rfl) (of_decide_eq_true (by kernel_rfl)) k0 bel lt0) (trodAll_cons_mk (Below.trod laidOut (by kernel_rfl) (of_decide_eq_true (by kernel_rfl)) k1 bel lt1) (trodAll_mk0)), rfl, Below.frame bel _, fun h => by cases h⟩

theorem over : Rows.sunUpsetsRow.holds Try.pinned (OpenSpec.ofChange Rows.sunUpsetsSpec) :=
  OpenClaim.holds_of_wide 9 Try.f9 rfl rfl rfl rfl rfl rfl rfl ⟨rfl, rfl, rfl, rfl, rfl⟩ rfl rfl rfl rfl rfl (by kernel_rfl) Try.func9 (by kernel_rfl)
    (of_decide_eq_true (by kernel_rfl)) (by unfold Func.isWrapper; rw [if_neg (of_decide_eq_false (by kernel_rfl))]; exact ⟨rfl, rfl⟩)
    (fun os started H enc _ => lifted os started H enc)

/-- The statement. -/
theorem proved : Rows.SunUpsetsSaid := over
end Go.Proofs.Ytahkihifgafbnaa.sunUpsets
