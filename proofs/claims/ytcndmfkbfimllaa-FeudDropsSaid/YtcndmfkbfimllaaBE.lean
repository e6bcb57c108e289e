/- By the document: Same, numbered, Drop; errors of Drop by both. -/
import Derived.Test.YtcndmfkbfimllaaBD
import Derived.Deep.AppendLies
import Derived.Deep.RegionHeldLaw
namespace Go.Proofs.Ytcndmfkbfimllaa
open Go.RowKit Go.Maps

set_option maxRecDepth 100000 in
set_option maxHeartbeats 1000000 in
theorem rSame_any (p : Int) (A B : Option Addr) (n c m d : Nat) (F : List (Int × Int)) (w : World) (hA : Prs w A F) (hB : Prs w B F) (hn : F.length = n) (hm : F.length = m) (hmax : n ≤ 1000) :
    Calls Try.prog 76 #[.agg #[.int .i64 p, .slice A n c], .agg #[.int .i64 p, .slice B m d]] w fun e w' => e = .returned (.bool true) ∧ Bel w w' := by
  obtain rfl : n = m := by omega
  have Hn := Lib.hid hn
  have hni : (n : Int) ≤ 1000 := by omega
  have Held := Lib.hid (fun w' (h : Bel (w.alloc (.cells #[.int .i64 p, .slice A n c] 24)) w') => pair_box h)
  have Held2 := Lib.hid (fun w' (h : Bel ((w.alloc (.cells #[.int .i64 p, .slice A n c] 24)).alloc (.cells #[.int .i64 p, .slice B n d] 24)) w') => pair_box h)
  clear hn hm
  simp only [World.size_alloc] at Held2
  go_enter Try.func76, Try.ntmps76
  go_wp2
  go_loopw [5] (fun i wr => ∃ k : Nat, k ≤ n ∧ i = .int .i64 k ∧ Bel ((w.alloc (.cells #[.int .i64 p, .slice A n c] 24)).alloc (.cells #[.int .i64 p, .slice B n d] 24)) wr) (fun i _ => n - (intOf i).toNat)
  case atStart => exact ⟨0, Nat.zero_le _, rfl, Bel.refl _⟩
  case round =>
    obtain ⟨k, hk, rfl, hb⟩ := hrel
    have hb0 : Bel (w.alloc (.cells #[.int .i64 p, .slice A n c] 24)) wr := ((Bel.refl _).alloc _).trans hb
    have hbw : Bel w wr := ((Bel.refl w).alloc _).trans hb0
    obtain ⟨d0, d1⟩ := Held.out _ hb0
    obtain ⟨d2, d3⟩ := Held2.out _ hb
    by_cases hlt : k < n
    · obtain ⟨b, o, s, t, rfl, hbl, hg, hc1, hc2⟩ := (hA.bel hbw).at_ (k := k) (by rw [Hn.out]; exact hlt)
      obtain ⟨b', o', s', t', rfl, hbl', hg', hc1', hc2'⟩ := (hB.bel hbw).at_ (k := k) (by rw [Hn.out]; exact hlt)
      rw [hg] at hg'
      injection hg' with hg'
      injection hg' with hg1 hg2
      subst hg1 hg2
      have hkn : (k : Int) < (n : Int) := by omega
      have hk0 : (0 : Int) ≤ (k : Int) := by omega
      clear hg
      go_wp2
      go_quiet (fail)
      go_wp2
      go_roundw
      case rel => exact ⟨k + 1, by omega, by go_num, by (repeat (first | exact Bel.refl _ | assumption | refine Bel.drew ?_ | refine Bel.drewN ?_ _ | refine Bel.alloc ?_ _ | refine Bel.setCell ?_ (by first | omega | (simp; done) | (simp; omega) | (simp at *; omega)) _ | refine Bel.trans ?_ (by assumption)))⟩
      case measure => simp [intOf]; omega
    · obtain rfl : k = n := by omega
      go_wp2
      go_ret
      exact ⟨rfl, by (repeat (first | exact Bel.refl _ | assumption | refine Bel.drew ?_ | refine Bel.drewN ?_ _ | refine Bel.alloc ?_ _ | refine Bel.setCell ?_ (by first | omega | (simp; done) | (simp; omega) | (simp at *; omega)) _ | refine Bel.trans ?_ (by assumption)))⟩
set_option maxRecDepth 100000 in
theorem numbered_any (p : Int) (A : Option Addr) (n c : Nat) (F : List (Int × Int)) (k : Int) (w : World) (hR : Prs w A F) (hn : F.length = n) (h60 : n ≤ 900) :
    Calls Try.prog 107 #[.agg #[.int .i64 p, .slice A n c], .int .i64 k] w fun e w' => e = .returned (.int .i64 (errK p F k)) ∧ Bel w w' := by
  have Hn := Lib.hid hn
  have Held := Lib.hid (fun w' (h : Bel (w.alloc (.cells #[.int .i64 p, .slice A n c] 24)) w') => pair_box h)
  have hni : (n : Int) ≤ 900 := by omega
  by_cases he : errF p F = 0
  · have HE := Lib.hid he
    by_cases hs : 0 ≤ k ∧ k ≤ (n : Int) - 1
    · have HS := Lib.hid (errK_ok (k := k) he (by rw [hn]; omega))
      have HA := Lib.hid hs
      clear he hs hn
      go_enter Try.func107, Try.ntmps107
      go_wp2_with fail
      refine (rValidate_any p A n c F _ (hR.bel (by (repeat (first | exact Bel.refl _ | assumption | refine Bel.drew ?_ | refine Bel.drewN ?_ _ | refine Bel.alloc ?_ _ | refine Bel.setCell ?_ (by first | omega | (simp; done) | (simp; omega) | (simp at *; omega)) _ | refine Bel.trans ?_ (by assumption))))) Hn.out h60).mono ?_
      rintro e w1 ⟨rfl, hb1⟩
      rw [HE.out]
      obtain ⟨b0, b1⟩ := Held.out _ hb1
      go_wp2_with fail
      refine (within_yes k 0 ((n : Int) - 1) _ HA.out).mono ?_
      rintro e w2 ⟨rfl, rfl⟩
      go_wp2
      go_ret
      exact ⟨ret_int HS.out.symm, by (repeat (first | exact Bel.refl _ | assumption | refine Bel.drew ?_ | refine Bel.drewN ?_ _ | refine Bel.alloc ?_ _ | refine Bel.setCell ?_ (by first | omega | (simp; done) | (simp; omega) | (simp at *; omega)) _ | refine Bel.trans ?_ (by assumption)))⟩
    · have HS := Lib.hid (errK_no (k := k) he (by rw [hn]; omega))
      have HA := Lib.hid hs
      clear he hs hn
      go_enter Try.func107, Try.ntmps107
      go_wp2_with fail
      refine (rValidate_any p A n c F _ (hR.bel (by (repeat (first | exact Bel.refl _ | assumption | refine Bel.drew ?_ | refine Bel.drewN ?_ _ | refine Bel.alloc ?_ _ | refine Bel.setCell ?_ (by first | omega | (simp; done) | (simp; omega) | (simp at *; omega)) _ | refine Bel.trans ?_ (by assumption))))) Hn.out h60).mono ?_
      rintro e w1 ⟨rfl, hb1⟩
      rw [HE.out]
      obtain ⟨b0, b1⟩ := Held.out _ hb1
      go_wp2_with fail
      refine (within_no k 0 ((n : Int) - 1) _ HA.out).mono ?_
      rintro e w2 ⟨rfl, rfl⟩
      go_wp2
      go_ret
      exact ⟨ret_int HS.out.symm, by (repeat (first | exact Bel.refl _ | assumption | refine Bel.drew ?_ | refine Bel.drewN ?_ _ | refine Bel.alloc ?_ _ | refine Bel.setCell ?_ (by first | omega | (simp; done) | (simp; omega) | (simp at *; omega)) _ | refine Bel.trans ?_ (by assumption)))⟩
  · have HS := Lib.hid (errK_bad (k := k) he)
    obtain ⟨x, hx⟩ : ∃ x, x = errF p F := ⟨_, rfl⟩
    have hne : (x != 0) = true := by rw [hx]; simpa using he
    have HX := Lib.hid hx
    clear he hx hn
    go_enter Try.func107, Try.ntmps107
    go_wp2_with fail
    refine (rValidate_any p A n c F _ (hR.bel (by (repeat (first | exact Bel.refl _ | assumption | refine Bel.drew ?_ | refine Bel.drewN ?_ _ | refine Bel.alloc ?_ _ | refine Bel.setCell ?_ (by first | omega | (simp; done) | (simp; omega) | (simp at *; omega)) _ | refine Bel.trans ?_ (by assumption))))) Hn.out h60).mono ?_
    rintro e w1 ⟨rfl, hb1⟩
    rw [← HX.out]
    go_wp2
    go_ret
    exact ⟨ret_int (HX.out.trans HS.out.symm), by (repeat (first | exact Bel.refl _ | assumption | refine Bel.drew ?_ | refine Bel.drewN ?_ _ | refine Bel.alloc ?_ _ | refine Bel.setCell ?_ (by first | omega | (simp; done) | (simp; omega) | (simp at *; omega)) _ | refine Bel.trans ?_ (by assumption)))⟩
set_option maxRecDepth 100000 in
theorem drop_err (p : Int) (A : Option Addr) (n c : Nat) (F : List (Int × Int)) (k : Int) (w : World) (hR : Prs w A F) (hn : F.length = n) (h60 : n ≤ 900) (he : errK p F k ≠ 0) :
    Calls Try.prog 74 #[.agg #[.int .i64 p, .slice A n c], .int .i64 k] w (ShopErr w (errK p F k)) := by
  obtain ⟨x, hx⟩ : ∃ x, x = errK p F k := ⟨_, rfl⟩
  have hne : (x != 0) = true := by rw [hx]; simpa using he
  rw [← hx]
  have HX := Lib.hid hx
  have Hn := Lib.hid hn
  clear he hx hn
  go_enter Try.func74, Try.ntmps74
  go_wp2_with fail
  refine (validateFeud_any p A n c F k _ (hR.bel (by (repeat (first | exact Bel.refl _ | assumption | refine Bel.drew ?_ | refine Bel.drewN ?_ _ | refine Bel.alloc ?_ _ | refine Bel.setCell ?_ (by first | omega | (simp; done) | (simp; omega) | (simp at *; omega)) _ | refine Bel.trans ?_ (by assumption))))) Hn.out h60).mono ?_
  rintro e w1 ⟨rfl, hb1⟩
  rw [← HX.out]
  have hsz2 : w.heap.size + 1 < w1.heap.size := by have := hb1.size; simp at this; omega
  have r0 : w1.cell? ⟨w.heap.size + 1, 0, none⟩ = some (.int .i64 0) := by rw [hb1.use.1 _ _ (by simp)]; go_simp
  have r1 : w1.cell? ⟨w.heap.size + 1, 1, none⟩ = some (.slice none 0 0) := by rw [hb1.use.1 _ _ (by simp)]; go_simp
  have rf0 : w1.frozen? ⟨w.heap.size + 1, 0, none⟩ = false := by rw [hb1.use.2.1 _ _ (by simp)]; go_simp
  have rf1 : w1.frozen? ⟨w.heap.size + 1, 1, none⟩ = false := by rw [hb1.use.2.1 _ _ (by simp)]; go_simp
  have HR0 := Lib.hid r0; have HR1 := Lib.hid r1
  go_wp2
  obtain ⟨q0, q1⟩ := stored2 (x := .int .i64 0) (y := .slice none 0 0) HR0.out HR1.out
  exact bodyPost_ret (v := .tuple #[.agg #[.int .i64 0, .slice none 0 0], .int .i64 x]) (by simp [results, Try.results74, go_sem, q0, q1]) rfl ⟨rfl, by (repeat (first | exact Bel.refl _ | assumption | refine Bel.drew ?_ | refine Bel.drewN ?_ _ | refine Bel.alloc ?_ _ | refine Bel.setCell ?_ (by first | omega | (simp; done) | (simp; omega) | (simp at *; omega)) _ | refine Bel.trans ?_ (by assumption)))⟩
set_option maxRecDepth 100000 in
theorem rDrop_err (p : Int) (A : Option Addr) (n c : Nat) (F : List (Int × Int)) (k : Int) (w : World) (hR : Prs w A F) (hn : F.length = n) (h60 : n ≤ 900) (he : errK p F k ≠ 0) :
    Calls Try.prog 72 #[.agg #[.int .i64 p, .slice A n c], .int .i64 k] w (ShopErr w (errK p F k)) := by
  obtain ⟨x, hx⟩ : ∃ x, x = errK p F k := ⟨_, rfl⟩
  have hne : (x != 0) = true := by rw [hx]; simpa using he
  rw [← hx]
  have HX := Lib.hid hx
  have Hn := Lib.hid hn
  clear he hx hn
  go_enter Try.func72, Try.ntmps72
  go_wp2_with fail
  refine (numbered_any p A n c F k _ (hR.bel (by (repeat (first | exact Bel.refl _ | assumption | refine Bel.drew ?_ | refine Bel.drewN ?_ _ | refine Bel.alloc ?_ _ | refine Bel.setCell ?_ (by first | omega | (simp; done) | (simp; omega) | (simp at *; omega)) _ | refine Bel.trans ?_ (by assumption))))) Hn.out h60).mono ?_
  rintro e w1 ⟨rfl, hb1⟩
  rw [← HX.out]
  have hsz2 : w.heap.size + 1 < w1.heap.size := by have := hb1.size; simp at this; omega
  have r0 : w1.cell? ⟨w.heap.size + 1, 0, none⟩ = some (.int .i64 0) := by rw [hb1.use.1 _ _ (by simp)]; go_simp
  have r1 : w1.cell? ⟨w.heap.size + 1, 1, none⟩ = some (.slice none 0 0) := by rw [hb1.use.1 _ _ (by simp)]; go_simp
  have rf0 : w1.frozen? ⟨w.heap.size + 1, 0, none⟩ = false := by rw [hb1.use.2.1 _ _ (by simp)]; go_simp
  have rf1 : w1.frozen? ⟨w.heap.size + 1, 1, none⟩ = false := by rw [hb1.use.2.1 _ _ (by simp)]; go_simp
  have HR0 := Lib.hid r0; have HR1 := Lib.hid r1
  go_wp2
  obtain ⟨q0, q1⟩ := stored2 (x := .int .i64 0) (y := .slice none 0 0) HR0.out HR1.out
  exact bodyPost_ret (v := .tuple #[.agg #[.int .i64 0, .slice none 0 0], .int .i64 x]) (by simp [results, Try.results72, go_sem, q0, q1]) rfl ⟨rfl, by (repeat (first | exact Bel.refl _ | assumption | refine Bel.drew ?_ | refine Bel.drewN ?_ _ | refine Bel.alloc ?_ _ | refine Bel.setCell ?_ (by first | omega | (simp; done) | (simp; omega) | (simp at *; omega)) _ | refine Bel.trans ?_ (by assumption)))⟩
theorem out_bel {w wr W w3 : World} {g : Nat} {p : Int} {l : List (Int × Int)} {v : Value} (h : Outs w wr g p l) (hv : wr.cell? ⟨g, 1, none⟩ = some v) (hW : Bel wr W) (hg : W.grownBy w3 v.ownBlock) : Bel w w3 := by
  obtain ⟨v1, h1, h2⟩ := h.own
  rw [hv] at h1
  injection h1 with h1
  subst h1
  refine Below.grown (h.bel.trans hW) hg (h.bel.trans hW).size (fun i hi => ?_)
  have := (World.ownsRow.lt h2 i hi).1; have := h.le; omega
set_option maxRecDepth 100000 in
set_option maxHeartbeats 2000000 in
theorem rDrop_ok (p : Int) (A : Option Addr) (n c : Nat) (F : List (Int × Int)) (k : Nat) (w : World) (hR : Prs w A F) (hn : F.length = n) (h60 : n ≤ 900) (he : errF p F = 0) (hk : k < n) :
    Calls Try.prog 72 #[.agg #[.int .i64 p, .slice A n c], .int .i64 (k : Int)] w (ShopRes w p (F.eraseIdx k)) := by
  obtain ⟨i0, hi, hz0, hz1, hz2⟩ := info_parts info2F
  have HE := Lib.hid (errK_ok (k := (k : Int)) he (by rw [hn]; omega))
  have Hn := Lib.hid hn
  have Held := Lib.hid (fun w' (h : Bel (w.alloc (.cells #[.int .i64 p, .slice A n c] 24)) w') => pair_box h)
  have hki : (k : Int) < (n : Int) := by omega
  have hni : (n : Int) ≤ 900 := by omega
  clear hn he
  go_enter Try.func72, Try.ntmps72
  go_wp2_with fail
  refine (numbered_any p A n c F k _ (hR.bel (by (repeat (first | exact Bel.refl _ | assumption | refine Bel.drew ?_ | refine Bel.drewN ?_ _ | refine Bel.alloc ?_ _ | refine Bel.setCell ?_ (by first | omega | (simp; done) | (simp; omega) | (simp at *; omega)) _ | refine Bel.trans ?_ (by assumption))))) Hn.out h60).mono ?_
  rintro e w1 ⟨rfl, hb1⟩
  rw [HE.out]
  have hb01 : Bel (w.alloc (.cells #[.int .i64 p, .slice A n c] 24)) w1 := ((Bel.refl _).alloc _).trans hb1
  obtain ⟨b0, b1⟩ := Held.out _ hb01
  have hsz1 : w.heap.size < w1.heap.size := by have := hb1.size; simp at this; omega
  have hsz2 : w.heap.size + 1 < w1.heap.size := by have := hb1.size; simp at this; omega
  have hres := Lib.hid (fun w' (h : Bel w1 w') => show (w'.cell? ⟨w.heap.size + 1, 0, none⟩ = some (.int .i64 0) ∧ w'.cell? ⟨w.heap.size + 1, 1, none⟩ = some (.slice none 0 0)) ∧ ∀ o, w'.frozen? ⟨w.heap.size + 1, o, none⟩ = false from by
    have h2 := hb1.trans h
    refine ⟨⟨?_, ?_⟩, fun o => ?_⟩
    · rw [h2.use.1 _ _ (by simp)]; go_simp
    · rw [h2.use.1 _ _ (by simp)]; go_simp
    · rw [h2.use.2.1 _ _ (by simp)]; go_simp)
  have hO0 : Outs w1 (w1.alloc (.cells #[.int .i64 p, .slice none 0 0] 24)) w1.heap.size p (drTo F k 0) := by
    rw [drTo_zero]
    exact ⟨(Bel.refl w1).alloc _, ⟨.slice none 0 0, by go_simp, Own2.nil _ _ _⟩, by go_simp, fun o => by go_simp, by simp, Nat.le_refl _⟩
  go_wp2
  clear b0 b1
  go_loopw [8] (fun i wr => ∃ q : Nat, q ≤ n ∧ i = .int .i64 q ∧ Outs w1 wr w1.heap.size p (drTo F k q)) (fun i _ => n - (intOf i).toNat)
  case atStart => exact ⟨0, Nat.zero_le _, rfl, hO0⟩
  case round =>
    clear hO0
    obtain ⟨q, hq, rfl, hO⟩ := hrel
    have hbw : Bel w wr := ((Bel.refl w).alloc _).trans (hb01.trans hO.bel)
    obtain ⟨d0, d1⟩ := Held.out _ (hb01.trans hO.bel)
    by_cases hlt : q < n
    · have hqn : (q : Int) < (n : Int) := by omega
      obtain ⟨b, o, x, y, rfl, hbl, hg, hc1, hc2⟩ := hR.at_ (k := q) (by rw [Hn.out]; exact hlt)
      by_cases hqk : q = k
      · have HQ := Lib.hid (show drTo F k (q + 1) = drTo F k q by rw [hqk]; exact drTo_skip (by rw [Hn.out]; omega))
        have hqk2 : ((q : Int) == (k : Int)) = true := by simpa using (show (q : Int) = (k : Int) by omega)
        have hqk3 : (q == k) = true := by simpa using hqk
        clear hg hqk
        go_wp2
        go_roundw
        case rel => exact ⟨q + 1, by omega, by go_num, by rw [HQ.out]; exact hO.beL (by (repeat (first | exact Bel.refl _ | assumption | refine Bel.drew ?_ | refine Bel.drewN ?_ _ | refine Bel.alloc ?_ _ | refine Bel.setCell ?_ (by first | omega | (simp; done) | (simp; omega) | (simp at *; omega)) _ | refine Bel.trans ?_ (by assumption))))⟩
        case measure => simp [intOf]; omega
      · have HQ := Lib.hid (drTo_next hg hqk)
        have hqk2 : ((q : Int) == (k : Int)) = false := by simpa using (fun e : (q : Int) = (k : Int) => hqk (by omega))
        have hqk3 : (q == k) = false := by simpa using hqk
        obtain ⟨v, hv, hOv⟩ := hO.own
        have HO := Lib.hid hO
        have hwl := drTo_len F k q
        obtain ⟨X, hX⟩ : ∃ X, X = drTo F k q := ⟨_, rfl⟩
        rw [← hX] at hOv hwl HO
        have HX := Lib.hid hX
        have hX1 := Lib.hid (show X.length + 1 ≤ maxLen by unfold maxLen; omega)
        have hX2 := Lib.hid (show (X.length + 1) * 16 ≤ 140737488355328 by omega)
        have hltw : w1.heap.size < wr.heap.size := hO.lt
        have hfz := hO.fz 1
        have HOv := Lib.hid hOv
        have hq0 : (0 : Int) ≤ (q : Int) := by omega
        clear hg hqk hX hOv hO
        have HE := Lib.hid (fun w' (h : Bel w w') => show w'.cell? ⟨b, o + q * 2, none⟩ = some (.int .i64 x) ∧ w'.cell? ⟨b, o + q * 2 + 1, none⟩ = some (.int .i64 y) from ⟨by rw [h.use.1 _ _ hbl]; exact hc1, by rw [h.use.1 _ _ hbl]; exact hc2⟩)
        have HG := Lib.hid (fun w' (h : Bel wr w') => show w'.cell? ⟨w1.heap.size, 1, none⟩ = some v ∧ w'.frozen? ⟨w1.heap.size, 1, none⟩ = false ∧ w1.heap.size < w'.heap.size from ⟨by rw [h.use.1 _ _ hltw]; exact hv, by rw [h.use.2.1 _ _ hltw]; exact hfz, Nat.lt_of_lt_of_le hltw h.size⟩)
        obtain ⟨e1, e2⟩ := HE.out _ hbw
        have hb1r : Bel w1 wr := HO.out.bel
        have HW01 := Lib.hid (((Bel.refl w).alloc (.cells #[.int .i64 p, .slice (some ⟨b, o, none⟩) n c] 24)).trans hb01)
        clear hc1 hc2
        go_wp2
        go_region_law
          (first | (refine step_append_lies _ rfl (.tmp 30) (.tmp 36) 22 rfl (w1.heap.size + 1) 45 i0 _ 2 16 Try.underlying22 hi hz0 hz1 hz2 rfl (by decide) v X.length (cel2 X) (by rfl) (HOv.out.bel (by (repeat (first | exact Bel.refl _ | assumption | refine Bel.drew ?_ | refine Bel.drewN ?_ _ | refine Bel.alloc ?_ _ | refine Bel.setCell ?_ (by first | omega | (simp; done) | (simp; omega) | (simp at *; omega)) _ | refine Bel.trans ?_ (by assumption))))) ⟨wr.heap.size, 0, none⟩ 1 1 [.int .i64 x, .int .i64 y] (by rfl) rfl (newF _ _ _ _ _ rfl) (one2 _ _) (by omega) hX1.out hX2.out (by simp; omega) _ rfl ?_; intro g3 cap3 w3 hown3 hgr3 hat3 hlt3; have hB9 := out_bel HO.out hv (by (repeat (first | exact Bel.refl _ | assumption | refine Bel.drew ?_ | refine Bel.drewN ?_ _ | refine Bel.alloc ?_ _ | refine Bel.setCell ?_ (by first | omega | (simp; done) | (simp; omega) | (simp at *; omega)) _ | refine Bel.trans ?_ (by assumption)))) hgr3; have hk9 := out_kept HO.out hv (by (repeat (first | exact Bel.refl _ | assumption | refine Bel.drew ?_ | refine Bel.drewN ?_ _ | refine Bel.alloc ?_ _ | refine Bel.setCell ?_ (by first | omega | (simp; done) | (simp; omega) | (simp at *; omega)) _ | refine Bel.trans ?_ (by assumption)))) hgr3; obtain ⟨d5, d6⟩ := Held.out _ (hb01.trans hB9); obtain ⟨e5, e6⟩ := HE.out _ (HW01.out.trans hB9); obtain ⟨k5, k6, k7⟩ := hk9))
        all_goals
          have HO3 := Lib.hid (HO.out.put hv (by (repeat (first | exact Bel.refl _ | assumption | refine Bel.drew ?_ | refine Bel.drewN ?_ _ | refine Bel.alloc ?_ _ | refine Bel.setCell ?_ (by first | omega | (simp; done) | (simp; omega) | (simp at *; omega)) _ | refine Bel.trans ?_ (by assumption)))) hgr3 hown3)
          clear hown3 hgr3 hat3 hlt3
          go_wp2
          go_roundw
          case rel => exact ⟨q + 1, by omega, by go_num, by rw [HQ.out, ← HX.out]; exact HO3.out⟩
          case measure => simp [intOf]; omega
    · obtain rfl : q = n := by omega
      have e9 : drTo F k q = F.eraseIdx k := by unfold drTo; rw [List.take_of_length_le (by rw [Hn.out]; omega)]
      rw [e9] at hO
      obtain ⟨v, hv, hOv⟩ := hO.own
      obtain ⟨A9, n9, c9, rfl, hn9⟩ := hOv.form
      have HP := Lib.hid hOv.prs
      have HN9 := Lib.hid hn9
      have HLT := Lib.hid (show ∀ b o, A9 = some ⟨b, o, none⟩ → w1.heap.size + 1 ≤ b ∧ b < wr.heap.size from fun b o e => by
        subst e
        exact World.ownsRow.lt hOv b rfl)
      obtain ⟨⟨r0, r1⟩, rf⟩ := hres.out _ hO.bel
      have rf0 := rf 0
      have rf1 := rf 1
      have c0 := hO.c0
      have hltw : w1.heap.size < wr.heap.size := hO.lt
      have hw1 := hO.bel
      have HR0 := Lib.hid r0; have HR1 := Lib.hid r1
      clear hn9 e9 hO hOv rf
      go_wp2
      obtain ⟨q0, q1⟩ := stored2 (x := .int .i64 p) (y := .slice A9 n9 c9) HR0.out HR1.out
      refine bodyPost_ret (v := .tuple #[.agg #[.int .i64 p, .slice A9 n9 c9], .int .i64 0]) (by simp [results, Try.results72, go_sem, q0, q1]) rfl ⟨A9, n9, c9, rfl, HN9.out, by (repeat (first | exact Bel.refl _ | assumption | refine Bel.drew ?_ | refine Bel.drewN ?_ _ | refine Bel.alloc ?_ _ | refine Bel.setCell ?_ (by first | omega | (simp; done) | (simp; omega) | (simp at *; omega)) _ | refine Bel.trans ?_ (by assumption))), ?_, ?_⟩
      · refine (HP.out.far (fun b o e => ?_) _).far (fun b o e => ?_) _ <;> (have := (HLT.out b o e).1; simp; omega)
      · intro b o e
        have h1 := HLT.out b o e
        have h2 := hw1.size
        exact ⟨by omega, by simp [World.setCell]; exact h1.2⟩
end Go.Proofs.Ytcndmfkbfimllaa
