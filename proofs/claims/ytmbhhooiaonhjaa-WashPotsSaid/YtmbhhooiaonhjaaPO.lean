/-
  The statement WashPotsSaid: for all lots, times and depths Pots answers as the document says, what sinks in the pots and what stays above adds up to the lot, the lists stay as they were in their spare cells, too, and the known masses come out. No condition.
-/
import Derived.Test.YtmbhhooiaonhjaaSH
import Derived.Test.YtmbhhooiaonhjaaK
import Derived.Deep.RegionWith
namespace Go.Proofs.Ytmbhhooiaonhjaa.washPots
open Go.ChangeShapes Go.WideShapes Go.ChangeAt Go.RowKit Go.Joins

set_option maxRecDepth 100000 in
set_option maxHeartbeats 8000000 in
theorem inner (A B : Option Addr) (n c m e : Nat) (gs : List (Int × Int)) (ts : List Int) (d : Int) (w : World) (hR : Prs w A gs) (hT : Ints w B ts) (hn : gs.length = n) (hm : ts.length = m) :
    Calls Try.prog 8 #[.slice A n c, .slice B m e, .int .i64 d] w fun e w' => e = .returned (.bool true) ∧ Bel w w' := by
  by_cases h40 : 40 < n
  · have hd : decide (40 < n) = true := by simpa using h40
    go_enter Try.func8, Try.ntmps8
    go_wp2_with (first | (go_at_call 15; refine (long_any _ _ _ _).mono ?_; rintro e w' ⟨rfl, rfl⟩) | (go_at_call 16; refine (known_any _).mono ?_; rintro e w7 ⟨rfl, hb7⟩))
    go_ret
    exact ⟨rfl, by (repeat (first | exact Bel.refl _ | assumption | refine Bel.drew ?_ | refine Bel.drewN ?_ _ | refine Bel.alloc ?_ _ | refine Bel.setCell ?_ (by first | omega | (simp; done) | (simp; omega) | (simp at *; omega)) _ | refine Bel.trans ?_ (by assumption)))⟩
  have hd : decide (40 < n) = false := by simpa using h40
  by_cases h41 : 40 < m
  · have h41' : (40 : Int) < (m : Int) := by omega
    go_enter Try.func8, Try.ntmps8
    go_wp2_with (first | (go_at_call 15; refine (long_any _ _ _ _).mono ?_; rintro e w' ⟨rfl, rfl⟩) | (go_at_call 16; refine (known_any _).mono ?_; rintro e w7 ⟨rfl, hb7⟩))
    go_ret
    exact ⟨rfl, by (repeat (first | exact Bel.refl _ | assumption | refine Bel.drew ?_ | refine Bel.drewN ?_ _ | refine Bel.alloc ?_ _ | refine Bel.setCell ?_ (by first | omega | (simp; done) | (simp; omega) | (simp at *; omega)) _ | refine Bel.trans ?_ (by assumption)))⟩
  have h41' : ¬ (40 : Int) < (m : Int) := by omega
  have hmax : n ≤ maxLen := by unfold maxLen; omega
  have hmax' : m ≤ maxLen := by unfold maxLen; omega
  by_cases hE : potsE gs ts d = 0
  · obtain ⟨he, h3, hts, d1, d2⟩ := potsE_zero hE
    have hf := fit_of gs he
    have hm3 : m ≤ 3 := by omega
    have hn6 : n ≤ 6 := by have := (errV_zero he).1; omega
    have hat : Hid (∀ k, k ≤ m → (potsL gs ts d)[k]? = some (gs.map (cellK ts d k))) := fun k hk => by rw [potsL_at hf d1 ts (fun t ht => (hts t ht).1) k (by rw [hm]; exact hk), rowK_map]
    have HLEN : Hid ((potsL gs ts d).length = m + 1) := by show _ = _; rw [potsL_length, hm]
    have HTS := Lib.hid hts; have HE := Lib.hid hE; have Hn := Lib.hid hn; have Hm := Lib.hid hm; have HF := Lib.hid hf
    clear hE h3 hts he hn hm hf
    go_enter Try.func8, Try.ntmps8
    go_wp2_with (go_at_call 15; refine (long_any _ _ _ _).mono ?_; rintro e w' ⟨rfl, rfl⟩)
    refine (rPots_ok A B n c m e gs ts d _ hR hT Hn.out Hm.out HE.out).mono ?_
    rintro e w1 ⟨v1, rfl, hO1, hb1⟩
    obtain ⟨A1, n1, c1, rfl, hn1, hT1⟩ := hO1.form
    rw [HLEN.out] at hn1
    subst n1
    clear hO1
    go_wp2_with fail
    refine (pots_ok A B n c m _ gs ts d _ (hR.bel hb1) (hT.bel hb1) Hn.out Hm.out hmax HE.out).mono ?_
    rintro e w2 ⟨v2, rfl, hO2, hb2⟩
    obtain ⟨A2, n2, c2, rfl, hn2, hT2⟩ := hO2.form
    rw [HLEN.out] at hn2
    subst n2
    clear hO2
    go_wp2_with fail
    refine (sameRows_any _ _ A2 A1 (m + 1) c2 c1 (potsL gs ts d) _ hT2 (hT1.bel hb2) HLEN.out (by omega)).mono ?_
    rintro e w3 ⟨rfl, hb3⟩
    have hT3 := hT2.bel hb3
    have hR3 := hR.bel ((hb1.trans hb2).trans hb3)
    have hb03 : Bel w w3 := (hb1.trans hb2).trans hb3
    have hm1 : IntKind.i64.wrap ((m : Int) + 1) = (m : Int) + 1 := IntWalk.i64_in _ (by omega)
    clear hT1 hT2 hR hb1 hb2 hb3
    go_wp2
    go_loopw [11, 12, 13] (fun i _ _ wr => ∃ j : Nat, j ≤ n ∧ i = .int .i64 j ∧ Bel w3 wr) (fun i _ _ _ => n - (intOf i).toNat)
    case atStart => exact ⟨0, Nat.zero_le _, rfl, Bel.refl _⟩
    case round =>
      obtain ⟨j, hj, rfl, hb⟩ := hrel
      by_cases hlt : j < n
      · obtain ⟨b, o, s, x, rfl, hbl, hg, hc1, hc2⟩ := (hR3.bel hb).at_ (k := j) (by rw [Hn.out]; exact hlt)
        obtain ⟨⟨s1, s2⟩, x1, x2⟩ := HF.out (s, x) (List.mem_of_getElem? hg)
        simp only at s1 s2 x1 x2
        have hjn : (j : Int) < (n : Int) := by omega
        have hj0 : (0 : Int) ≤ (j : Int) := by omega
        have HG := Lib.hid hg
        have heldm : ∀ w', Bel wr w' → w'.cell? ⟨b, o + j * 2 + 1, none⟩ = some (.int .i64 x) := fun w' h => by rw [h.use.1 _ _ hbl]; exact hc2
        have HeldM := Lib.hid heldm
        obtain ⟨wo, hwo⟩ : ∃ wo : World, wo = wr := ⟨_, rfl⟩
        subst hwo
        clear hg hc1 hc2 heldm
        go_wp2
        go_loopw [13] (fun i wr => ∃ k : Nat, k ≤ m + 1 ∧ i = .int .i64 k ∧ Bel wo wr ∧ wo.heap.size < wr.heap.size ∧ wr.cell? ⟨wo.heap.size, 0, none⟩ = some (.int .i64 (sumK ts d k s x).1) ∧ wr.cell? ⟨wo.heap.size, 1, none⟩ = some (.int .i64 (sumK ts d k s x).2) ∧ wr.frozen? ⟨wo.heap.size, 0, none⟩ = false ∧ wr.frozen? ⟨wo.heap.size, 1, none⟩ = false) (fun i _ => m + 1 - (intOf i).toNat)
        case atStart => exact ⟨0, Nat.zero_le _, rfl, (Bel.refl _).alloc _, by simp, by rw [sumK_zero]; go_simp, by rw [sumK_zero]; go_simp, by go_simp, by go_simp⟩
        case round =>
          obtain ⟨k, hk, rfl, hb2, hsz, hx1, hx2, hz1, hz2⟩ := hrel
          by_cases hkm : k < m + 1
          · obtain ⟨b2, o2, A3, n3, c3, rfl, hbl2, hct, hpr, hlr, -⟩ := (hT3.bel (hb.trans hb2)).held (hat.out k (by omega))
            rw [List.length_map, Hn.out] at hlr
            subst hlr
            obtain ⟨b3, o3, p, q, rfl, hbl3, hgq, hcp, hcq⟩ := hpr.at_ (k := j) (by rw [List.length_map, Hn.out]; exact hlt)
            rw [List.getElem?_map, HG.out] at hgq
            have hpq : cellK ts d k (s, x) = (p, q) := by injection hgq
            have hst := sumK_step (ts := ts) (d := d) (s := s) (m := x) (k := k) d1 (by omega) (by omega) (fun t h => (HTS.out t h).1) (by rw [Hm.out]; omega)
            have hbd1 := sumK_bd (ts := ts) (d := d) (s := s) (m := x) (k := k) d1 d2 (by omega) (by omega) (by omega) (fun t h => (HTS.out t h).1) (by rw [Hm.out]; omega) (by rw [Hm.out]; omega)
            have hbd2 := cellK_bd (ts := ts) (d := d) (s := s) (m := x) (k := k) d1 d2 (by omega) (by omega) (by omega) (fun t h => (HTS.out t h).1) (by rw [Hm.out]; omega) (by rw [Hm.out]; omega)
            rw [hpq] at hst hbd2
            generalize sumK ts d k s x = S at *
            obtain ⟨u, v⟩ := S
            simp only at hx1 hx2 hst hbd1 hbd2
            obtain ⟨⟨e1, e2⟩, e3, e4⟩ := hbd1
            obtain ⟨⟨e5, e6⟩, e7, e8⟩ := hbd2
            have HST := Lib.hid hst
            obtain ⟨z1, z2⟩ := mul_bd (A := 800000) (B := 8000) e1 e2 (by omega : 0 ≤ q) e8
            obtain ⟨z3, z4⟩ := mul_bd (A := 800000) (B := 8000) e5 e6 (by omega : 0 ≤ v) e4
            obtain ⟨z5, z6⟩ := mul_bd (A := 8000) (B := 8000) (by omega : 0 ≤ v) e4 (by omega : 0 ≤ q) e8
            have z7 : 0 < v * q := Int.mul_pos (by omega) (by omega)
            have hsm : SmallL [(p, q), (u, v)] := by
              intro y hy
              simp at hy
              rcases hy with rfl | rfl
              · simp only; omega
              · simp only; omega
            have hkm' : (k : Int) < ((m + 1 : Nat) : Int) := by omega
            have hk0 : (0 : Int) ≤ (k : Int) := by omega
            have held : ∀ w', Bel wr w' → w'.cell? ⟨b2, o2 + k, none⟩ = some (.slice (some ⟨b3, o3, none⟩) n c3) ∧ w'.cell? ⟨b3, o3 + j * 2, none⟩ = some (.int .i64 p) ∧ w'.cell? ⟨b3, o3 + j * 2 + 1, none⟩ = some (.int .i64 q) ∧ w'.cell? ⟨wo.heap.size, 0, none⟩ = some (.int .i64 u) ∧ w'.cell? ⟨wo.heap.size, 1, none⟩ = some (.int .i64 v) ∧ w'.frozen? ⟨wo.heap.size, 0, none⟩ = false ∧ w'.frozen? ⟨wo.heap.size, 1, none⟩ = false ∧ wo.heap.size < w'.heap.size := fun w' h => ⟨by rw [h.use.1 _ _ hbl2]; exact hct, by rw [h.use.1 _ _ hbl3]; exact hcp, by rw [h.use.1 _ _ hbl3]; exact hcq, by rw [h.use.1 _ _ hsz]; exact hx1, by rw [h.use.1 _ _ hsz]; exact hx2, by rw [h.use.2.1 _ _ hsz]; exact hz1, by rw [h.use.2.1 _ _ hsz]; exact hz2, Nat.lt_of_lt_of_le hsz h.size⟩
            have Held := Lib.hid held
            obtain ⟨wp, hwp⟩ : ∃ wp : World, wp = wr := ⟨_, rfl⟩
            subst hwp
            clear hct hpr hgq hcp hcq hx1 hx2 hz1 hz2 hst held hpq
            go_wp2
            obtain ⟨r1, r2, r3, r4, r5, r6, r7, r8⟩ := Held.out wp (Bel.refl _)
            go_region_held3 (fun w' => Bel wp w' ∧ w'.cell? ⟨b2, o2 + k, none⟩ = some (.slice (some ⟨b3, o3, none⟩) n c3) ∧ w'.cell? ⟨b3, o3 + j * 2, none⟩ = some (.int .i64 p) ∧ w'.cell? ⟨b3, o3 + j * 2 + 1, none⟩ = some (.int .i64 q) ∧ w'.cell? ⟨wo.heap.size, 0, none⟩ = some (.int .i64 u) ∧ w'.cell? ⟨wo.heap.size, 1, none⟩ = some (.int .i64 v) ∧ w'.frozen? ⟨wo.heap.size, 0, none⟩ = false ∧ w'.frozen? ⟨wo.heap.size, 1, none⟩ = false ∧ wo.heap.size < w'.heap.size) (exact ⟨by (repeat (first | exact Bel.refl _ | assumption | refine Bel.drew ?_ | refine Bel.drewN ?_ _ | refine Bel.alloc ?_ _ | refine Bel.setCell ?_ (by first | omega | (simp; done) | (simp; omega) | (simp at *; omega)) _ | refine Bel.trans ?_ (by assumption))), Held.out _ (by (repeat (first | exact Bel.refl _ | assumption | refine Bel.drew ?_ | refine Bel.drewN ?_ _ | refine Bel.alloc ?_ _ | refine Bel.setCell ?_ (by first | omega | (simp; done) | (simp; omega) | (simp at *; omega)) _ | refine Bel.trans ?_ (by assumption))))⟩)
              ((go_at_call 20; refine (small_any _ 2 2 [(p, q), (u, v)] _ ((prs_lit wp p q u v 46 wp.heap.size rfl).bel (Bel.refl _).drew) rfl (by omega) hsm).mono ?_; rintro e w' ⟨rfl, rfl⟩))
            go_wp2
            have O1 := Lib.hid (congrArg Prod.fst HST.out); have O2 := Lib.hid (congrArg Prod.snd HST.out)
            simp only [nd] at O1 O2
            go_region_with ((go_at_call 21; refine (add_any u v p q _ z1 z3 (by omega) (by omega) z7 (by omega)).mono ?_; rintro e w5 ⟨rfl, hb5⟩; rw [O1.out, O2.out]; obtain ⟨q1, q2, q3, q4, q5, q6, q7, q8⟩ := Held.out w5 (by (repeat (first | exact Bel.refl _ | assumption | refine Bel.drew ?_ | refine Bel.drewN ?_ _ | refine Bel.alloc ?_ _ | refine Bel.setCell ?_ (by first | omega | (simp; done) | (simp; omega) | (simp at *; omega)) _ | refine Bel.trans ?_ (by assumption))))))
            all_goals
              go_wp2
              go_roundw
              case rel =>
                have hb6 : Bel wo w5 := hb2.trans (by (repeat (first | exact Bel.refl _ | assumption | refine Bel.drew ?_ | refine Bel.drewN ?_ _ | refine Bel.alloc ?_ _ | refine Bel.setCell ?_ (by first | omega | (simp; done) | (simp; omega) | (simp at *; omega)) _ | refine Bel.trans ?_ (by assumption))))
                refine ⟨k + 1, by omega, by go_num, (hb6.setCell (Nat.le_refl _) _).setCell (Nat.le_refl _) _, by simpa using q8, ?_, ?_, ?_, ?_⟩
                · rw [World.cell?_setCell_other _ _ _ _ (by simp)]
                  exact World.cell?_setCell_same' _ _ _ (by rw [q4]; rfl)
                · exact World.cell?_setCell_same' _ _ _ (by rw [World.cell?_setCell_other _ _ _ _ (by simp), q5]; rfl)
                · rw [World.frozen?_setCell, World.frozen?_setCell]; exact q6
                · rw [World.frozen?_setCell, World.frozen?_setCell]; exact q7
              case measure => simp [intOf]; omega
          · obtain rfl : k = m + 1 := by omega
            have HS1 : Hid (sumK ts d (m + 1) s x = (x, 1)) := sumK_end (by rw [Hm.out]; omega)
            rw [HS1.out] at hx1 hx2
            simp only at hx1 hx2
            have hone := nd_one (a := x) (by omega)
            simp only [nd, Prod.mk.injEq] at hone
            obtain ⟨o1, o2⟩ := hone
            have O1 := Lib.hid o1; have O2 := Lib.hid o2
            have hk1 : ¬ (((m + 1 : Nat) : Int) < ((m + 1 : Nat) : Int)) := by omega
            have held : ∀ w', Bel wr w' → w'.cell? ⟨b, o + j * 2 + 1, none⟩ = some (.int .i64 x) ∧ w'.cell? ⟨wo.heap.size, 0, none⟩ = some (.int .i64 x) ∧ w'.cell? ⟨wo.heap.size, 1, none⟩ = some (.int .i64 1) := fun w' h => ⟨HeldM.out w' (hb2.trans h), by rw [h.use.1 _ _ hsz]; exact hx1, by rw [h.use.1 _ _ hsz]; exact hx2⟩
            have Held := Lib.hid held
            clear o1 o2 hz1 hz2 held hx1 hx2
            obtain ⟨wp, hwp⟩ : ∃ wp : World, wp = wr := ⟨_, rfl⟩
            subst hwp
            go_wp2
            obtain ⟨r1, r2, r3⟩ := Held.out wp (Bel.refl _)
            go_region_held3 (fun w' => Bel wp w' ∧ w'.cell? ⟨b, o + j * 2 + 1, none⟩ = some (.int .i64 x) ∧ w'.cell? ⟨wo.heap.size, 0, none⟩ = some (.int .i64 x) ∧ w'.cell? ⟨wo.heap.size, 1, none⟩ = some (.int .i64 1)) (exact ⟨by (repeat (first | exact Bel.refl _ | assumption | refine Bel.drew ?_ | refine Bel.drewN ?_ _ | refine Bel.alloc ?_ _ | refine Bel.setCell ?_ (by first | omega | (simp; done) | (simp; omega) | (simp at *; omega)) _ | refine Bel.trans ?_ (by assumption))), Held.out _ (by (repeat (first | exact Bel.refl _ | assumption | refine Bel.drew ?_ | refine Bel.drewN ?_ _ | refine Bel.alloc ?_ _ | refine Bel.setCell ?_ (by first | omega | (simp; done) | (simp; omega) | (simp at *; omega)) _ | refine Bel.trans ?_ (by assumption))))⟩)
              ((go_at_call 22; refine (ratio_any x 1 _ (by omega) (by omega) (by omega) (by omega)).mono ?_; rintro e w6 ⟨rfl, hb6⟩; rw [O1.out, O2.out]))
            go_wp2
            go_roundw
            case rel => exact ⟨j + 1, by omega, by go_num, by (repeat (first | exact Bel.refl _ | assumption | refine Bel.drew ?_ | refine Bel.drewN ?_ _ | refine Bel.alloc ?_ _ | refine Bel.setCell ?_ (by first | omega | (simp; done) | (simp; omega) | (simp at *; omega)) _ | refine Bel.trans ?_ (by assumption)))⟩
            case measure => simp [intOf]; omega
      · obtain rfl : j = n := by omega
        go_wp2_with (go_at_call 16; refine (known_any _).mono ?_; rintro e w7 ⟨rfl, hb7⟩)
        go_ret
        exact ⟨rfl, by (repeat (first | exact Bel.refl _ | assumption | refine Bel.drew ?_ | refine Bel.drewN ?_ _ | refine Bel.alloc ?_ _ | refine Bel.setCell ?_ (by first | omega | (simp; done) | (simp; omega) | (simp at *; omega)) _ | refine Bel.trans ?_ (by assumption)))⟩
  · obtain ⟨x, hx, hx0⟩ : ∃ x, potsE gs ts d = x ∧ x ≠ 0 := ⟨_, rfl, hE⟩
    have HX := Lib.hid hx
    have hne : (x != 0) = true := by simpa using hx0
    clear hx
    go_enter Try.func8, Try.ntmps8
    go_wp2_with (go_at_call 15; refine (long_any _ _ _ _).mono ?_; rintro e w' ⟨rfl, rfl⟩)
    refine (rPots_err A B n c m e gs ts d _ hR hT hn hm hmax hmax' hE).mono ?_
    rintro e w1 ⟨rfl, hb1⟩
    rw [HX.out]
    go_wp2_with fail
    refine (pots_err A B n c m _ gs ts d _ (hR.bel hb1) (hT.bel hb1) hn hm hmax hmax' hE).mono ?_
    rintro e w2 ⟨rfl, hb2⟩
    rw [HX.out]
    go_wp2_with fail
    refine (sameRows_any 0 0 none none 0 0 0 [] _ (.inl rfl) (.inl rfl) rfl (by decide)).mono ?_
    rintro e w3 ⟨rfl, hb3⟩
    go_wp2_with (go_at_call 16; refine (known_any _).mono ?_; rintro e w7 ⟨rfl, hb7⟩)
    go_ret
    exact ⟨rfl, by (repeat (first | exact Bel.refl _ | assumption | refine Bel.drew ?_ | refine Bel.drewN ?_ _ | refine Bel.alloc ?_ _ | refine Bel.setCell ?_ (by first | omega | (simp; done) | (simp; omega) | (simp at *; omega)) _ | refine Bel.trans ?_ (by assumption)))⟩

set_option maxHeartbeats 400000 in
theorem walk (A : Option Addr) (n c : Nat) (zs : List (Int × Int)) (B : Option Addr) (m d : Nat) (ys : List Int) (x : Int) (w : World) (a : Arg2 w A n c zs) (b : ArgI w B m d ys) :
    Calls Try.prog 3 #[.slice A n c, .slice B m d, .int .i64 x] w fun e w' => e = .returned (.bool true) ∧ Bel w w' := by
  obtain ⟨e1, e2, e3⟩ := a.els
  obtain ⟨f1, f2, f3⟩ := b.els
  go_enter Try.func3, Try.ntmps3
  go_wp2_with fail
  refine (keepGrains_any A n c zs _ (a.prs.bel (by (repeat (first | exact Bel.refl _ | assumption | refine Bel.drew ?_ | refine Bel.drewN ?_ _ | refine Bel.alloc ?_ _ | refine Bel.setCell ?_ (by first | omega | (simp; done) | (simp; omega) | (simp at *; omega)) _ | refine Bel.trans ?_ (by assumption))))) a.len a.le a.nil a.reach).mono ?_
  rintro e w1 ⟨A', n', c', rfl, hn', hb1, hr1⟩
  have HN := Lib.hid hn'; clear hn'
  have hb01 : Bel w w1 := by (repeat (first | exact Bel.refl _ | assumption | refine Bel.drew ?_ | refine Bel.drewN ?_ _ | refine Bel.alloc ?_ _ | refine Bel.setCell ?_ (by first | omega | (simp; done) | (simp; omega) | (simp at *; omega)) _ | refine Bel.trans ?_ (by assumption)))
  go_wp2_with fail
  refine (keepInts_any B m d ys _ (b.ints.bel hb01) b.len b.le b.nil b.reach).mono ?_
  rintro e w2 ⟨B', m', d', rfl, hm', hb2, hr2, hf2⟩
  have HM := Lib.hid hm'; clear hm'
  have hb02 : Bel w w2 := hb01.trans hb2
  go_wp2_with fail
  refine (inner A B n c m d _ _ x _ (e1.bel hb02) (f1.bel hb02) e2 f2).mono ?_
  rintro e w3 ⟨rfl, hb3⟩
  go_wp2_with fail
  refine (keptGrains_any A' A n' c' n c zs _ (hr1.bel (hb2.trans hb3)) (a.prs.bel (hb02.trans hb3)) HN.out.symm a.len a.le a.nil (reachN_le a.reach (by omega)).1).mono ?_
  rintro e w4 ⟨rfl, hb4⟩
  have hb24 := hb3.trans hb4
  go_wp2_with fail
  refine (keptInts_any B' B m' d' m d ys _ (hr2.bel hb24) (b.ints.bel (hb02.trans hb24)) HM.out.symm b.len b.le b.nil (reachN_le b.reach (by omega)).1).mono ?_
  rintro e w5 ⟨rfl, hb5⟩
  go_wp2
  go_ret
  exact ⟨rfl, (hb02.trans hb24).trans hb5⟩

set_option maxRecDepth 100000 in
theorem lifted (os : Os) (started : os.Started) (H : Type) (enc : TypeId × Value → H) :
    ReturnsInHanded {} Try.checked os 3 .any (Rows.washPotsSpec.pre6 enc Try.prog Try.f3 Rows.washPotsRow.domain false) (Rows.washPotsSpec.post enc Try.prog Try.f3 false true false false) := by
  refine returnsInHanded_of_change_sized (C := Try.checked) own started (by kernel_rfl) Try.func3
    (ChangeSpec.witness6 (enc := enc) (C := Try.checked) false ⟨#[], #[.slice none 0 0, .slice none 0 0, .int .i64 0], []⟩ 8 (by kernel_rfl) (by kernel_rfl) (by kernel_rfl) (by kernel_rfl)) ?_
  intro W base args ds gs before hval0 hW hcnd hsz0 _
  have hval : ∀ (j : Nat) t v, Try.f3.params[j]? = some t → args[j]? = some v → Value.okWide Try.prog W .any base t v := hval0
  have hsz : (DataW.weightsEach Try.prog (Try.f3.params.toList ++ Rows.washPotsSpec.plain.varTypes Try.prog) (ds ++ gs)).all (· ≤ reachBytes) = true := hsz0
  have hW' := hW
  obtain ⟨p, q, hA0, hV, rfl, hfz, hnd⟩ := hW
  have hA : DataW.TrodAll enc Try.prog W 0 (fun _ => true) true Try.f3.params.toList args.toList ds p := hA0
  rw [Try.params3] at hA hval hsz
  obtain ⟨v0, vs0, d0, ds0, p0, q0, hargs, rfl, rfl, h0, r0⟩ := trodAll_cons hA
  obtain ⟨v1, vs1, d1, ds1, p1, q1, rfl, rfl, rfl, h1, r1⟩ := trodAll_cons r0
  obtain ⟨v2, vs2, d2, ds2, p2, q2, rfl, rfl, rfl, h2, r2⟩ := trodAll_cons r1
  obtain ⟨rfl, rfl, rfl⟩ := trodAll_nil r2
  obtain rfl : args = #[v0, v1, v2] := by cases args; simp_all
  obtain ⟨rfl, rfl⟩ := trodVars_none hV
  have k0 := h0
  have lt0 : ∀ x ∈ p0, x.block < W.heap.size := by obtain ⟨m, hm⟩ := k0; exact DataW.trod_lt m _ _ _ hm
  have k1 := h1
  have lt1 : ∀ x ∈ p1, x.block < W.heap.size := by obtain ⟨m, hm⟩ := k1; exact DataW.trod_lt m _ _ _ hm
  have k2 := h2
  have lt2 : ∀ x ∈ p2, x.block < W.heap.size := by obtain ⟨m, hm⟩ := k2; exact DataW.trod_lt m _ _ _ hm
  have hr0 : ∀ es sp, d0 = .slice es sp → (es.length + sp.length) * 16 ≤ reachN := by
    intro es sp hd
    have := sized_slice (elems := es) (spare := sp) hsz (j := 0) (t := 22) (e := 52) rfl (by rw [hd]; rfl) Try.underlying22
    rw [bytesGrain] at this
    exact this
  obtain ⟨A0, n0, c0, zs0, rfl, a0⟩ := open_arg2 (hval 0 22 v0 rfl rfl) h0 hr0
  have hr1 : ∀ k ∈ d1.weights Try.prog 23, k ≤ reachN := fun k hk => by rw [← reach_eq]; simpa using List.all_eq_true.1 hsz k (DataW.weights_mem_each (j := 1) rfl rfl k hk)
  obtain ⟨A1, n1, c1, zs1, rfl, a1⟩ := open_argI (hval 1 23 v1 rfl rfl) h1 hr1
  obtain ⟨x2, rfl, rfl, rfl, w2⟩ := open_int Try.underlying3 (hval 2 3 v2 rfl rfl) h2
  clear hA0 hval0
  refine (walk A0 n0 c0 zs0 A1 n1 c1 zs1 x2 W a0 a1).mono fun e W' ⟨he, bel⟩ => ?_
  subst he
  exact ⟨_, rfl, _, _, _, [], _, [], hW', trodAll_mk1 (shut_bool Try.underlying4 _), trodAll_cons_mk (Below.trod laidOut (by kernel_rfl) (of_decide_eq_true (by kernel_rfl)) k0 bel lt0) (trodAll_cons_mk (Below.trod laidOut (by kernel_rfl) (of_decide_eq_true (by kernel_rfl)) k1 bel lt1) (trodAll_cons_mk (shut_int Try.underlying3 w2) (trodAll_mk0))), rfl, Below.frame bel _, fun h => by cases h⟩

theorem over : Rows.washPotsRow.holds Try.pinned (OpenSpec.ofChange Rows.washPotsSpec) :=
  OpenClaim.holds_of_wide 3 Try.f3 rfl rfl rfl rfl rfl rfl rfl ⟨rfl, rfl, rfl, rfl, rfl⟩ rfl rfl rfl rfl rfl (by kernel_rfl) Try.func3 (by kernel_rfl)
    (of_decide_eq_true (by kernel_rfl)) (by unfold Func.isWrapper; rw [if_neg (of_decide_eq_false (by kernel_rfl))]; exact ⟨rfl, rfl⟩)
    (fun os started H enc _ => lifted os started H enc)

/-- The statement. -/
theorem proved : Rows.WashPotsSaid := over
end Go.Proofs.Ytmbhhooiaonhjaa.washPots
