/- The document's Mean and Middle. -/
import Derived.Test.YtnlcndhbamcpdaaS
namespace Go.Proofs.Ytnlcndhbamcpdaa
open Go.RowKit

set_option maxHeartbeats 400000 in
theorem rMean_any (A : Option Addr) (n c : Nat) (gs : List (Int × Int)) (w : World) (hR : Prs w A gs) (hn : gs.length = n) (hlen : n ≤ 40) :
    Calls Try.prog 72 #[.slice A n c] w fun e w' => e = .returned (ratE (meanV gs)) ∧ Bel w w' := by
  by_cases he : errV gs = 0
  · have hm := fit_of gs he
    rcases Nat.eq_zero_or_pos n with h0 | h0
    · have hv : meanV gs = (0, 0, 4) := by unfold meanV; rw [if_pos he, if_pos (by omega)]
      have HV := Lib.hid hv; clear hv
      have HE := Lib.hid he; clear he
      subst h0
      go_enter Try.func72, Try.ntmps72
      go_wp2_with fail
      refine (rvalidate_any A 0 c gs _ (hR.bel ((Bel.refl w).alloc _)) hn (by unfold maxLen; omega)).mono ?_
      rintro e w1 ⟨rfl, hb1⟩
      rw [HE.out]
      have t3 : w1.cell? ⟨w.heap.size, 0, none⟩ = some (.int .i64 0) := by rw [hb1.use.1 _ _ (by simp)]; go_simp
      have t4 : w1.cell? ⟨w.heap.size, 1, none⟩ = some (.int .i64 0) := by rw [hb1.use.1 _ _ (by simp)]; go_simp
      have t5 : ∀ i, w1.frozen? ⟨w.heap.size, i, none⟩ = false := fun i => by rw [hb1.use.2.1 _ _ (by simp)]; go_simp
      go_wp2
      exact bodyPost_ret (v := .tuple #[.agg #[.int .i64 0, .int .i64 0], .int .i64 4]) (by simp [results, Try.results72, go_sem, t3, t4]) rfl ⟨ratE_mk HV.out, by (repeat (first | exact Bel.refl _ | assumption | refine Bel.drew ?_ | refine Bel.drewN ?_ _ | refine Bel.alloc ?_ _ | refine Bel.setCell ?_ (by first | omega | (simp; done) | (simp; omega) | (simp at *; omega)) _ | refine Bel.trans ?_ (by assumption)))⟩
    · have hv : meanV gs = (num (sumS gs) (sumM gs), den (sumS gs) (sumM gs), 0) := by unfold meanV; rw [if_pos he, if_neg (by omega)]
      have HV := Lib.hid hv; clear hv
      obtain ⟨b1, b2⟩ := sumS_bd hm
      obtain ⟨b3, b4⟩ := sumM_bd hm
      have h6 := (errV_zero he).1
      have h1 : ((n : Int) == 0) = false := by simp; omega
      have HE := Lib.hid he; clear he
      have b5 : 0 ≤ sumS gs ∧ sumS gs ≤ 1000000 ∧ 0 < sumM gs ∧ sumM gs ≤ 1000000 := by omega
      have HM := Lib.hid (sumB_all hm)
      have Hn := Lib.hid hn
      clear b1 b2 b3 b4 hn
      go_enter Try.func72, Try.ntmps72
      go_wp2_with fail
      refine (rvalidate_any A n c gs _ (hR.bel ((Bel.refl w).alloc _)) Hn.out (by unfold maxLen; omega)).mono ?_
      rintro e w1 ⟨rfl, hb1⟩
      rw [HE.out]
      go_wp2_with fail
      go_loopw [5, 6] (fun a i wr => ∃ k : Nat, k ≤ n ∧ i = .int .i64 k ∧ a = .int .i64 (sumS (gs.take k)) ∧ Bel w1 wr) (fun _ i _ => n - (intOf i).toNat)
      case atStart => exact ⟨0, Nat.zero_le _, rfl, by simp [sumS], Bel.refl _⟩
      case round =>
        obtain ⟨k, hk, rfl, rfl, hb⟩ := hrel
        by_cases hlt : k < n
        · obtain ⟨b, o, s, m, rfl, hbl, hg, hc1, hc2⟩ := (hR.bel (w' := wr) (by (repeat (first | exact Bel.refl _ | assumption | refine Bel.drew ?_ | refine Bel.drewN ?_ _ | refine Bel.alloc ?_ _ | refine Bel.setCell ?_ (by first | omega | (simp; done) | (simp; omega) | (simp at *; omega)) _ | refine Bel.trans ?_ (by assumption))))).at_ (k := k) (by rw [Hn.out]; exact hlt)
          obtain ⟨⟨hm3, hm4⟩, hm1, hm2⟩ := hm (s, m) (List.mem_of_getElem? hg)
          obtain ⟨hs1, hs2⟩ := sumS_bd (hm.take k)
          have hl := List.length_take_le k gs
          have HT := Lib.hid (take_at hg)
          have HS := Lib.hid (sumS_snoc (gs.take k) s m)
          clear hg hm
          simp only at hm1 hm2 hm3 hm4
          obtain ⟨p1, p2⟩ := mul_bd (A := 20) (B := 100) (by omega : 0 ≤ s) hm4 (by omega : 0 ≤ m) hm2
          have hkn : (k : Int) < (n : Int) := by omega
          have hk0 : (0 : Int) ≤ (k : Int) := by omega
          have hr : ∃ nq : Nat, True := ⟨0, trivial⟩
          have f1 : (k : Int) + 1 ≤ 41 := by omega
          have f2 : 0 ≤ sumS (gs.take k) ∧ sumS (gs.take k) ≤ 100000 := by omega
          have W1 := IntWalk.i64_in (s * m) (by omega)
          have W2 := IntWalk.i64_in (sumS (gs.take k) + s * m) (by omega)
          go_wp2
          go_quiet (fail)
          clear W1 W2
          go_wp2
          go_roundw
          case rel => exact ⟨k + 1, by omega, by go_num, by rw [HT.out, HS.out], by (repeat (first | exact Bel.refl _ | assumption | refine Bel.drew ?_ | refine Bel.drewN ?_ _ | refine Bel.alloc ?_ _ | refine Bel.setCell ?_ (by first | omega | (simp; done) | (simp; omega) | (simp at *; omega)) _ | refine Bel.trans ?_ (by assumption)))⟩
          case measure => simp [intOf]; omega
        · obtain rfl : k = n := by omega
          have ht : gs.take k = gs := List.take_of_length_le (by rw [Hn.out]; omega)
          rw [ht]
          clear ht
          go_wp2_with fail
          refine (below_any A k c gs 20 _ (hR.bel (by (repeat (first | exact Bel.refl _ | assumption | refine Bel.drew ?_ | refine Bel.drewN ?_ _ | refine Bel.alloc ?_ _ | refine Bel.setCell ?_ (by first | omega | (simp; done) | (simp; omega) | (simp at *; omega)) _ | refine Bel.trans ?_ (by assumption))))) Hn.out (by omega) hm.mass).mono ?_
          rintro e w2 ⟨rfl, rfl⟩
          rw [HM.out]
          go_wp2_with fail
          refine (ratio_any _ _ _ b5.1 b5.2.2.1 (by omega) (by omega)).mono ?_
          rintro e w4 ⟨rfl, hb4⟩
          have hbb : Bel (w.alloc (.cells #[.int .i64 0, .int .i64 0] 29)) w4 := by (repeat (first | exact Bel.refl _ | assumption | refine Bel.drew ?_ | refine Bel.drewN ?_ _ | refine Bel.alloc ?_ _ | refine Bel.setCell ?_ (by first | omega | (simp; done) | (simp; omega) | (simp at *; omega)) _ | refine Bel.trans ?_ (by assumption)))
          have t3 : w4.cell? ⟨w.heap.size, 0, none⟩ = some (.int .i64 0) := by rw [hbb.use.1 _ _ (by simp)]; go_simp
          have t4 : w4.cell? ⟨w.heap.size, 1, none⟩ = some (.int .i64 0) := by rw [hbb.use.1 _ _ (by simp)]; go_simp
          have t5 : ∀ i, w4.frozen? ⟨w.heap.size, i, none⟩ = false := fun i => by rw [hbb.use.2.1 _ _ (by simp)]; go_simp
          go_wp2
          exact bodyPost_ret (v := .tuple #[.agg #[.int .i64 (num (sumS gs) (sumM gs)), .int .i64 (den (sumS gs) (sumM gs))], .int .i64 0]) (by simp [results, Try.results72, go_sem, t3, t4]) rfl ⟨ratE_mk HV.out, by (repeat (first | exact Bel.refl _ | assumption | refine Bel.drew ?_ | refine Bel.drewN ?_ _ | refine Bel.alloc ?_ _ | refine Bel.setCell ?_ (by first | omega | (simp; done) | (simp; omega) | (simp at *; omega)) _ | refine Bel.trans ?_ (by assumption)))⟩
  · have hv : meanV gs = (0, 0, errV gs) := by unfold meanV; rw [if_neg he]
    have HV := Lib.hid hv; clear hv
    have hne : (errV gs != 0) = true := by simpa using he
    go_enter Try.func72, Try.ntmps72
    go_wp2_with fail
    refine (rvalidate_any A n c gs _ (hR.bel ((Bel.refl w).alloc _)) hn (by unfold maxLen; omega)).mono ?_
    rintro e w1 ⟨rfl, hb1⟩
    have t3 : w1.cell? ⟨w.heap.size, 0, none⟩ = some (.int .i64 0) := by rw [hb1.use.1 _ _ (by simp)]; go_simp
    have t4 : w1.cell? ⟨w.heap.size, 1, none⟩ = some (.int .i64 0) := by rw [hb1.use.1 _ _ (by simp)]; go_simp
    have t5 : ∀ i, w1.frozen? ⟨w.heap.size, i, none⟩ = false := fun i => by rw [hb1.use.2.1 _ _ (by simp)]; go_simp
    go_wp2
    exact bodyPost_ret (v := .tuple #[.agg #[.int .i64 0, .int .i64 0], .int .i64 (errV gs)]) (by simp [results, Try.results72, go_sem, t3, t4]) rfl ⟨ratE_mk HV.out, by (repeat (first | exact Bel.refl _ | assumption | refine Bel.drew ?_ | refine Bel.drewN ?_ _ | refine Bel.alloc ?_ _ | refine Bel.setCell ?_ (by first | omega | (simp; done) | (simp; omega) | (simp at *; omega)) _ | refine Bel.trans ?_ (by assumption)))⟩
end Go.Proofs.Ytnlcndhbamcpdaa
