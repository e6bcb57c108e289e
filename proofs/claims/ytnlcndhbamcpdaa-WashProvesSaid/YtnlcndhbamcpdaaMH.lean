/- The document's Work. -/
import Derived.Test.YtnlcndhbamcpdaaMG
namespace Go.Proofs.Ytnlcndhbamcpdaa
open Go.RowKit

def diffB (gs hs : List (Int × Int)) : Nat → Int := fun i => sumB gs i - sumB hs i
theorem diffB_bd {gs hs : List (Int × Int)} (h1 : errV gs = 0) (h2 : errV hs = 0) (i : Nat) : (0 ≤ sumB gs i ∧ sumB gs i ≤ 600) ∧ 0 ≤ sumB hs i ∧ sumB hs i ≤ 600 := by
  have a := sumB_bd (i : Int) (fit_of gs h1).mass
  have b := sumB_bd (i : Int) (fit_of hs h2).mass
  have l1 := (errV_zero h1).1
  have l2 := (errV_zero h2).1
  omega
theorem sumTo_bd {D : Nat → Int} (h : ∀ i, -600 ≤ D i ∧ D i ≤ 600) (k : Nat) : -(600 * (k : Int)) ≤ sumTo D k ∧ sumTo D k ≤ 600 * (k : Int) := by
  induction k with
  | zero => simp [sumTo]
  | succ k ih =>
    have := h k
    simp only [sumTo]
    omega
theorem finV_false {gs hs : List (Int × Int)} (h : (finV gs hs).1 = false) : finV gs hs = (false, (finV gs hs).2) := by
  rw [← h]

set_option maxHeartbeats 1000000 in
theorem rWork_any (A B : Option Addr) (n c m d : Nat) (gs hs : List (Int × Int)) (w : World) (hR : Prs w A gs) (hS : Prs w B hs) (hn : gs.length = n) (hm : hs.length = m) (hmax : n ≤ maxLen) (hmax2 : m ≤ maxLen) :
    Calls Try.prog 83 #[.slice A n c, .slice B m d] w fun e w' => e = .returned (workE gs hs) ∧ Bel w w' := by
  cases hf : (finV gs hs).1
  · have HF := Lib.hid hf
    by_cases hz : (finV gs hs).2 = 0
    · go_enter Try.func83, Try.ntmps83
      go_wp2_with fail
      refine (rFiner_any A B n c m d gs hs _ hR hS hn hm hmax hmax2).mono ?_
      rintro e w1 ⟨rfl, hb1⟩
      unfold boolE
      rw [hf, hz]
      have HW : Hid (Ending.returned (.tuple #[.int .i64 0, .bool false, .int .i64 0]) = .returned (workE gs hs)) := by
        have := workE_no hf
        rwa [hz] at this
      go_wp2
      go_ret3
      exact ⟨HW.out, hb1⟩
    · have hne : ((finV gs hs).2 != 0) = true := by simpa using hz
      go_enter Try.func83, Try.ntmps83
      go_wp2_with fail
      refine (rFiner_any A B n c m d gs hs _ hR hS hn hm hmax hmax2).mono ?_
      rintro e w1 ⟨rfl, hb1⟩
      unfold boolE
      rw [hf]
      go_wp2
      go_ret3
      exact ⟨workE_no HF.out, hb1⟩
  · have HF := Lib.hid hf
    obtain ⟨a, b, hv⟩ := finV_true hf
    obtain ⟨e1, e2, e3⟩ := errF_zero a
    have f1 := fit_of gs e1
    have f2 := fit_of hs e2
    have l1 := (errV_zero e1).1
    have l2 := (errV_zero e2).1
    have HD := Lib.hid (diffB_bd e1 e2)
    have HW := Lib.hid (work_ref f1 f2 e3)
    have hd0 : diffB gs hs 0 = 0 := by unfold diffB; rw [sumB_low f1 (by simp), sumB_low f2 (by simp)]; rfl
    have HD0 := Lib.hid hd0
    have HV := Lib.hid hv
    clear a b hv e1 e2 e3 hf hd0
    go_enter Try.func83, Try.ntmps83
    go_wp2_with fail
    refine (rFiner_any A B n c m d gs hs _ hR hS hn hm hmax hmax2).mono ?_
    rintro e w1 ⟨rfl, hb1⟩
    rw [HV.out]
    unfold boolE
    go_wp2
    go_loop [9, 10] (fun a i => ∃ k : Nat, 1 ≤ k ∧ k ≤ 21 ∧ i = .int .i64 k ∧ a = .int .i64 (sumTo (diffB gs hs) k)) (fun _ i => 21 - (intOf i).toNat)
    case atStart => exact ⟨1, Nat.le_refl _, by omega, rfl, by simp only [sumTo]; rw [HD0.out]; rfl⟩
    case round =>
      obtain ⟨k, hk1, hk, rfl, rfl⟩ := hrel
      by_cases hlt : k < 21
      · have hbd := sumTo_bd (D := diffB gs hs) (fun i => by have := HD.out i; unfold diffB; omega) k
        obtain ⟨b1, b2⟩ := hbd
        have b3 : -12600 ≤ sumTo (diffB gs hs) k := by omega
        have b4 : sumTo (diffB gs hs) k ≤ 12600 := by omega
        obtain ⟨⟨d1, d2⟩, d3, d4⟩ := HD.out k
        clear b1 b2
        have HS : Hid (sumTo (diffB gs hs) (k + 1) = sumTo (diffB gs hs) k + (sumB gs k - sumB hs k)) := rfl
        go_wp2_with fail
        refine (below_any A n c gs k _ (hR.bel hb1) hn (by omega) f1.mass).mono ?_
        rintro e w3 ⟨rfl, rfl⟩
        go_wp2_with fail
        refine (below_any B m d hs k _ (hS.bel hb1) hm (by omega) f2.mass).mono ?_
        rintro e w3 ⟨rfl, rfl⟩
        go_wp2
        go_round
        case rel => exact ⟨k + 1, by omega, by omega, by go_num, by rw [HS.out]⟩
        case measure => simp [intOf]; omega
      · obtain rfl : k = 21 := by omega
        go_wp2
        go_ret3
        exact ⟨workE_yes HF.out HW.out, hb1⟩
end Go.Proofs.Ytnlcndhbamcpdaa
