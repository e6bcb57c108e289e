/- feud: terms, Count, Terms, Orders, walked. -/
import Derived.Test.YtcndmfkbfimllaaO
namespace Go.Proofs.Ytcndmfkbfimllaa
open Go.RowKit Go.Maps

/-- A list that the call made. -/
theorem row_ints {w : World} {b m : Nat} {f : Nat → Int} {l : List Int} (h : Row w b m m f) (hl : (List.range m).map f = l) : Ints w (some ⟨b, 0, none⟩) l := hl ▸ h.ints
set_option maxRecDepth 100000 in
set_option maxHeartbeats 4000000 in
theorem terms_any (p : Nat) (M : Nat) (G : List (Nat × Nat)) (w : World) (hF : FM w M G) (hp : p ≤ 7) :
    Calls Try.prog 102 #[.agg #[.int .i64 (p : Int), .map (some M)]] w (News w (termsL G p)) := by
  have hpi : (p : Int) ≤ 7 := by omega
  have Held := Lib.hid (fun w' (h : Bel (w.alloc (.cells #[.int .i64 (p : Int), .map (some M)] 70)) w') => box_shop h)
  have hmk : ∀ W : World, (Instr.makeSlice 25 (.int .i64 ((p : Int) + 1)) (.int .i64 ((p : Int) + 1))).run Try.prog W = .ok (.slice (some ⟨W.heap.size, 0, none⟩) (p + 1) (p + 1)) (W.alloc (.cells (madeCells #[.int .i64 0] (p + 1)) 3)) := by
    have := fun W : World => run_make_row' (P := Try.prog) 25 3 (.int .i64 0) 8 Try.underlying25 infoInt rfl .i64 .i64 (p + 1) (by first | omega | (unfold maxLen; omega)) (by first | omega | (unfold maxLen; omega)) W
    simpa using this
  have hrow : Row ((w.alloc (.cells #[.int .i64 (p : Int), .map (some M)] 70)).alloc (.cells (madeCells #[.int .i64 0] (p + 1)) 3)) (w.heap.size + 1) (p + 1) (p + 1) (fun j => cntU [] j) := by
    have h := Row.whole (w.alloc (.cells #[.int .i64 (p : Int), .map (some M)] 70)) (madeCells #[.int .i64 0] (p + 1)) 3 (p + 1) (fun j => cntU [] j) (fun i hi => made_int (p + 1) i hi)
    simpa using h
  generalize madeCells #[.int .i64 0] (p + 1) = C at *
  go_enter Try.func102, Try.ntmps102
  go_wp2_with fail
  obtain ⟨b0, b1⟩ := Held.out _ ((Bel.refl _).alloc (.cells C 3))
  refine (shelvings_any p M G _ (hF.bel (by (repeat (first | exact Bel.refl _ | assumption | refine Bel.drew ?_ | refine Bel.drewN ?_ _ | refine Bel.alloc ?_ _ | refine Bel.setCell ?_ (by first | omega | (simp; done) | (simp; omega) | (simp at *; omega)) _ | refine Bel.trans ?_ (by assumption))))) hp).mono ?_
  rintro e w1 ⟨A, n, c, rfl, hn, hb1, hT⟩
  have hr1 := hrow.bel hb1
  have hbw1 : Bel (w.alloc (.cells #[.int .i64 (p : Int), .map (some M)] 70)) w1 := ((Bel.refl _).alloc _).trans hb1
  have hlen := shelvL_len G p
  have hfc := fct_mono p hp
  have Hn := Lib.hid hn
  have hn5 : n ≤ 5040 := by omega
  have hni : (n : Int) ≤ 5040 := by omega
  clear hrow hmk hb1 hn hlen hfc b0 b1
  go_wp2
  go_loopw [15] (fun i wr => ∃ k : Nat, k ≤ n ∧ i = .int .i64 k ∧ Bel (w.alloc (.cells #[.int .i64 (p : Int), .map (some M)] 70)) wr ∧ Tab (w.heap.size + 1 + 1) wr A (upT (shelvL G p)) ∧ Row wr (w.heap.size + 1) (p + 1) (p + 1) (fun j => cntU ((shelvL G p).take k) j)) (fun i _ => n - (intOf i).toNat)
  case atStart => exact ⟨0, Nat.zero_le _, rfl, hbw1, (hT.low (by simp)), by simpa using hr1⟩
  case round =>
    clear hr1 hT hbw1
    obtain ⟨k, hk, rfl, hb, hT, hr⟩ := hrel
    by_cases hlt : k < n
    · obtain ⟨b, o, l, A', n', c', rfl, hbl, hg, hc1, hI, hl', hm'⟩ := upT_at hT (k := k) (by rw [← Hn.out]; exact hlt)
      obtain ⟨m1, m2⟩ := shelvL_mem G p l (List.mem_of_getElem? hg)
      have hu := useN_bd m2
      have HS := Lib.hid (fun j => by have := cntU_snoc ((shelvL G p).take k) l j; rw [← take_at hg] at this; exact this)
      obtain ⟨u, huu⟩ : ∃ u, u = useN l := ⟨_, rfl⟩
      rw [← huu] at hu HS
      have HU := Lib.hid huu
      have hcb := cntU_bd ((shelvL G p).take k) u
      obtain ⟨v, hv⟩ : ∃ v, v = cntU ((shelvL G p).take k) u := ⟨_, rfl⟩
      rw [← hv, List.length_take] at hcb
      have hv0 : 0 ≤ v := hcb.1
      have hv1 : v ≤ 5040 := by omega
      have hc2 := hr.cells u (by omega)
      rw [← hv] at hc2
      have hfz := hr.fz u
      have hltb := hr.lt
      have hup : (u : Int) < (p : Int) + 1 := by omega
      have hkn : (k : Int) < (n : Int) := by omega
      have HV := Lib.hid hv
      have HL := Lib.hid hl'
      have HM1 := Lib.hid m1
      have HM2 := Lib.hid m2
      have hn7 : n' ≤ 7 := by omega
      have HR2 := Lib.hid ((hr.put (i := u) (by omega) (v + 1)).congr (f' := fun j => cntU ((shelvL G p).take (k + 1)) j) (fun j _ => by
        show cntU ((shelvL G p).take (k + 1)) j = _
        rw [HS.out j]
        by_cases h1 : j = u
        · rw [if_pos h1, if_pos h1, ← HV.out]
        · rw [if_neg h1, if_neg h1]))
      have hT2 := Lib.hid (hT.far (p := ⟨w.heap.size + 1, u, none⟩) (by simp) (.int .i64 (v + 1)))
      clear hg m1 m2 huu hv hcb hl' hr
      go_wp2_with fail
      refine (inUse_any A' n' c' l _ hI HL.out (by omega) (fun x hx => by have := HM2.out x hx; omega)).mono ?_
      rintro e w2 ⟨rfl, rfl⟩
      rw [← HU.out]
      go_wp2
      go_roundw
      case rel => exact ⟨k + 1, by omega, by go_num, by (repeat (first | exact Bel.refl _ | assumption | refine Bel.drew ?_ | refine Bel.drewN ?_ _ | refine Bel.alloc ?_ _ | refine Bel.setCell ?_ (by first | omega | (simp; done) | (simp; omega) | (simp at *; omega)) _ | refine Bel.trans ?_ (by assumption))), hT2.out, HR2.out⟩
      case measure => simp [intOf]; omega
    · obtain rfl : k = n := by omega
      have hr' : Row wr (w.heap.size + 1) (p + 1) (p + 1) (waysI G p) := hr.congr (fun j _ => by
        show waysI G p j = cntU ((shelvL G p).take k) j
        rw [Hn.out, List.take_length]; rfl)
      obtain ⟨d0, d1⟩ := Held.out _ hb
      clear hr hT
      go_wp2
      clear d0 d1
      go_loopw [6, 7] (fun v x wr => ∃ (j : Nat) (A : Option Addr) (m c : Nat), j ≤ p + 1 ∧ x = .int .i64 ((p : Int) - (j : Int)) ∧ v = .slice A m c ∧ m = j ∧ Bel (w.alloc (.cells #[.int .i64 (p : Int), .map (some M)] 70)) wr ∧ Ints wr A (termD G p j) ∧ Row wr (w.heap.size + 1) (p + 1) (p + 1) (waysI G p)) (fun _ x _ => (intOf x + 1).toNat)
      case atStart => exact ⟨0, none, 0, 0, Nat.zero_le _, by simp, rfl, rfl, hb, .inl rfl, hr'⟩
      case round =>
        clear hr' hb
        obtain ⟨j, A, m, c, hj, hx, rfl, rfl, hb, hI, hr⟩ := hrel
        by_cases hjp : m ≤ p
        · obtain ⟨q, hq⟩ : ∃ q : Nat, p = q + m := ⟨p - m, by omega⟩
          have hx2 : ‹Value› = ‹Value› := rfl
          have hx' := hx.trans (show Value.int .i64 ((p : Int) - (m : Int)) = .int .i64 (q : Int) by rw [show (p : Int) - (m : Int) = (q : Int) by omega])
          subst hx'
          have hq7 : (q : Int) ≤ 7 := by omega
          have hqp : (q : Int) < (p : Int) + 1 := by omega
          have hb1 := termD_big G hp hj
          have HLn := Lib.hid (termD_length G p m)
          have hw := ways_bd G hp q
          have hc1 := hr.cells q (by omega)
          obtain ⟨v, hv⟩ : ∃ v, v = waysI G p q := ⟨_, rfl⟩
          rw [← hv] at hc1 hw
          obtain ⟨hw0, hw1⟩ := hw
          have HV := Lib.hid hv
          have hg := getD_bd (B := big) (by decide) hb1 0
          obtain ⟨p1, p2⟩ := mul_big (n := (q : Int)) (by omega) hq7 hg.1 hg.2
          have htl : tl (termD G p m) (q : Int) m 0 = (if 0 < m then -((q : Int) * (termD G p m).getD 0 0) else 0) := by
            unfold tl
            rw [if_neg (by omega)]
            split <;> omega
          obtain ⟨t0, ht0⟩ : ∃ t0, t0 = tl (termD G p m) (q : Int) m 0 := ⟨_, rfl⟩
          have ht1 : -(7 * big) ≤ t0 ∧ t0 ≤ 7 * big := by
            rw [ht0, htl]
            generalize (q : Int) * (termD G p m).getD 0 0 = R at *
            have : (0 : Int) ≤ big := by decide
            split <;> omega
          obtain ⟨ht2, ht3⟩ := ht1
          unfold big at ht2 ht3
          have HT0 := Lib.hid ht0
          have HQ := Lib.hid hq
          have HB1 := Lib.hid hb1
          have hc1lt := hr.lt
          clear hv hg p1 p2 htl ht0 hq hb1 hx hx2
          go_wp2_with fail
          refine (timesLess_any A m c (termD G p m) q _ hI HLn.out (by omega) (by omega) hq7 HB1.out).mono ?_
          rintro e w2 ⟨b, rfl, hbb, hb2, hr2⟩
          have hc3 := hr2.cells 0 (by omega)
          rw [← HT0.out] at hc3
          have hf2 := hr2.fz 0
          have hl2 := hr2.lt
          have hr3 := hr.bel hb2
          have hc4 := hr3.cells q (by omega)
          rw [← HV.out] at hc4
          have hbg : w.heap.size + 1 ≠ b := by omega
          have HI4 := Lib.hid (row_ints (hr2.put (i := 0) (by omega) (t0 + v)) (l := termD G p (m + 1)) (by
            rw [add0_range m _ v _ (by rw [HT0.out])]
            rw [termD, HV.out]
            unfold tlL
            rw [HLn.out]
            have e1 : (p : Int) - (m : Int) = (q : Int) := by have := HQ.out; omega
            have e2 : p - m = q := by have := HQ.out; omega
            rw [e1, e2]))
          have HR4 := Lib.hid (hr3.far (p := ⟨b, 0, none⟩) (by simp; omega) (.int .i64 (t0 + v)))
          have hbw2 := hb.trans hb2
          have hwb : w.heap.size + 1 ≤ b := by have := hb.size; simp at this; omega
          clear hr2 hr3 hr hI hc1 hb2
          go_wp2
          go_region
          go_wp2
          go_roundw
          case rel => exact ⟨m + 1, some ⟨b, 0, none⟩, m + 1, m + 1, by omega, by rw [show (q : Int) - 1 = (p : Int) - ((m + 1 : Nat) : Int) by have := HQ.out; omega], rfl, rfl, by (repeat (first | exact Bel.refl _ | assumption | refine Bel.drew ?_ | refine Bel.drewN ?_ _ | refine Bel.alloc ?_ _ | refine Bel.setCell ?_ (by first | omega | (simp; done) | (simp; omega) | (simp at *; omega)) _ | refine Bel.trans ?_ (by assumption))), HI4.out.bel (Bel.refl _).drew, HR4.out.drew⟩
          case measure => simp [intOf]
        · obtain rfl : m = p + 1 := by omega
          have hx' := hx.trans (show Value.int .i64 ((p : Int) - ((p + 1 : Nat) : Int)) = .int .i64 (-1) by rw [show (p : Int) - ((p + 1 : Nat) : Int) = -1 by omega])
          subst hx'
          have hbw2 : Bel w wr := ((Bel.refl w).alloc _).trans hb
          clear hx
          go_wp2
          go_ret
          exact ⟨A, p + 1, c, rfl, (termsL_length G p).symm, hbw2, hI⟩
end Go.Proofs.Ytcndmfkbfimllaa
