/- Which lots are finer. -/
import Derived.Test.YtmbhhooiaonhjaaAC
namespace Go.Proofs.Ytmbhhooiaonhjaa
open Go.RowKit

/-- The errors of two lots; and of two lots of one mass. -/
def errB (gs hs : List (Int × Int)) : Int := if errV gs = 0 then errV hs else errV gs
def errF (gs hs : List (Int × Int)) : Int := if errB gs hs = 0 then if sumM gs = sumM hs then 0 else 5 else errB gs hs
theorem errB_zero {gs hs : List (Int × Int)} (h : errB gs hs = 0) : errV gs = 0 ∧ errV hs = 0 := by
  unfold errB at h
  split at h
  · exact ⟨by assumption, h⟩
  · exact absurd h (by assumption)
theorem errF_zero {gs hs : List (Int × Int)} (h : errF gs hs = 0) : errV gs = 0 ∧ errV hs = 0 ∧ sumM gs = sumM hs := by
  unfold errF at h
  split at h
  · rename_i hb
    split at h
    · exact ⟨(errB_zero hb).1, (errB_zero hb).2, by assumption⟩
    · omega
  · exact absurd h (by assumption)
/-- As much of at most each size. -/
def finB (gs hs : List (Int × Int)) : Bool := (List.range 21).all fun (i : Nat) => decide (sumB hs i ≤ sumB gs i)
theorem finB_true {gs hs : List (Int × Int)} (h : ∀ i : Nat, i < 21 → sumB hs i ≤ sumB gs i) : finB gs hs = true := by simpa [finB] using h
theorem finB_false {gs hs : List (Int × Int)} {i : Nat} (hi : i < 21) (h : ¬ sumB hs i ≤ sumB gs i) : finB gs hs = false := by
  rw [Bool.eq_false_iff]
  intro ht
  simp only [finB, List.all_eq_true, List.mem_range, decide_eq_true_eq] at ht
  exact h (ht i hi)
theorem finB_iff {gs hs : List (Int × Int)} : finB gs hs = true ↔ ∀ i : Nat, i < 21 → sumB hs i ≤ sumB gs i := by simp [finB]
/-- IsFiner's answer. -/
def finV (gs hs : List (Int × Int)) : Bool × Int := if errF gs hs = 0 then (finB gs hs, 0) else (false, errF gs hs)
def boolE (x : Bool × Int) : Value := .tuple #[.bool x.1, .int .i64 x.2]
theorem boolE_mk {a : Bool} {b : Int} {x : Bool × Int} (h : x = (a, b)) : Ending.returned (.tuple #[.bool a, .int .i64 b]) = .returned (boolE x) := by rw [h]; rfl
theorem sumB_step (gs : List (Int × Int)) (k : Nat) : sumB gs k = sumB gs ((k : Int) - 1) + massF gs k := by
  induction gs with
  | nil => simp [sumB, massF]
  | cons g r ih =>
    have e1 : ∀ z, sumB (g :: r) z = (if g.1 ≤ z then g.2 else 0) + sumB r z := fun z => by simp [sumB]
    have e2 : massF (g :: r) k = (if g.1 = (k : Int) then g.2 else 0) + massF r k := by simp [massF]
    rw [e1, e1, e2, ih]
    by_cases a : g.1 = (k : Int)
    · rw [if_pos (by omega), if_neg (by omega), if_pos a]; omega
    · by_cases b : g.1 ≤ (k : Int)
      · rw [if_pos b, if_pos (by omega), if_neg a]; omega
      · rw [if_neg b, if_neg (by omega), if_neg a]; omega
theorem sumB_low {gs : List (Int × Int)} (h : Fit gs) {z : Int} (hz : z ≤ 0) : sumB gs z = 0 := by
  induction gs with
  | nil => rfl
  | cons g r ih =>
    have h2 := h g (by simp)
    have e : sumB (g :: r) z = (if g.1 ≤ z then g.2 else 0) + sumB r z := by simp [sumB]
    rw [e, if_neg (by omega), ih fun x hx => h x (by simp [hx])]
    rfl

set_option maxHeartbeats 400000 in
theorem both_any (A B : Option Addr) (n c m d : Nat) (gs hs : List (Int × Int)) (w : World) (hR : Prs w A gs) (hS : Prs w B hs) (hn : gs.length = n) (hm : hs.length = m) (hmax : n ≤ maxLen) (hmax2 : m ≤ maxLen) :
    Calls Try.prog 57 #[.slice A n c, .slice B m d] w fun e w' => e = .returned (.int .i64 (errB gs hs)) ∧ Bel w w' := by
  by_cases he : errV gs = 0
  · have hv : errB gs hs = errV hs := by unfold errB; rw [if_pos he]
    have HV := Lib.hid hv; clear hv
    have HE := Lib.hid he; clear he
    go_enter Try.func57, Try.ntmps57
    go_wp2_with fail
    refine (validate_any A n c gs _ hR hn hmax).mono ?_
    rintro e w1 ⟨rfl, hb1⟩
    rw [HE.out]
    go_wp2_with fail
    refine (validate_any B m d hs _ (hS.bel hb1) hm hmax2).mono ?_
    rintro e w2 ⟨rfl, hb2⟩
    go_wp2
    go_ret
    exact ⟨ret_int HV.out.symm, hb1.trans hb2⟩
  · have hv : errB gs hs = errV gs := by unfold errB; rw [if_neg he]
    have HV := Lib.hid hv; clear hv
    have hne : (errV gs != 0) = true := by simpa using he
    go_enter Try.func57, Try.ntmps57
    go_wp2_with fail
    refine (validate_any A n c gs _ hR hn hmax).mono ?_
    rintro e w1 ⟨rfl, hb1⟩
    go_wp2
    go_ret
    exact ⟨ret_int HV.out.symm, hb1⟩

set_option maxHeartbeats 400000 in
theorem fit_any (A B : Option Addr) (n c m d : Nat) (gs hs : List (Int × Int)) (w : World) (hR : Prs w A gs) (hS : Prs w B hs) (hn : gs.length = n) (hm : hs.length = m) (hmax : n ≤ maxLen) (hmax2 : m ≤ maxLen) :
    Calls Try.prog 47 #[.slice A n c, .slice B m d] w fun e w' => e = .returned (.int .i64 (errF gs hs)) ∧ Bel w w' := by
  by_cases he : errB gs hs = 0
  · obtain ⟨e1, e2⟩ := errB_zero he
    have f1 := fit_of gs e1
    have f2 := fit_of hs e2
    have l1 := (errV_zero e1).1
    have l2 := (errV_zero e2).1
    have hv : errF gs hs = if sumM gs = sumM hs then 0 else 5 := by unfold errF; rw [if_pos he]
    have HV := Lib.hid hv; clear hv
    have HE := Lib.hid he; clear he
    clear e1 e2
    by_cases hq : sumM gs = sumM hs
    · have hne : (sumM gs != sumM hs) = false := by simpa using hq
      have HV2 : Hid (errF gs hs = 0) := by show _ = _; rw [HV.out, if_pos hq]
      clear hq
      go_enter Try.func47, Try.ntmps47
      go_wp2_with fail
      refine (both_any A B n c m d gs hs _ hR hS hn hm hmax hmax2).mono ?_
      rintro e w1 ⟨rfl, hb1⟩
      rw [HE.out]
      go_wp2_with fail
      refine (massOf_any A n c gs _ (hR.bel hb1) hn (by omega) f1).mono ?_
      rintro e w2 ⟨rfl, hb2⟩
      go_wp2_with fail
      refine (massOf_any B m d hs _ (hS.bel (hb1.trans hb2)) hm (by omega) f2).mono ?_
      rintro e w3 ⟨rfl, hb3⟩
      go_wp2
      go_ret
      exact ⟨ret_int HV2.out.symm, (hb1.trans hb2).trans hb3⟩
    · have hne : (sumM gs != sumM hs) = true := by simpa using hq
      have HV2 : Hid (errF gs hs = 5) := by show _ = _; rw [HV.out, if_neg hq]
      clear hq
      go_enter Try.func47, Try.ntmps47
      go_wp2_with fail
      refine (both_any A B n c m d gs hs _ hR hS hn hm hmax hmax2).mono ?_
      rintro e w1 ⟨rfl, hb1⟩
      rw [HE.out]
      go_wp2_with fail
      refine (massOf_any A n c gs _ (hR.bel hb1) hn (by omega) f1).mono ?_
      rintro e w2 ⟨rfl, hb2⟩
      go_wp2_with fail
      refine (massOf_any B m d hs _ (hS.bel (hb1.trans hb2)) hm (by omega) f2).mono ?_
      rintro e w3 ⟨rfl, hb3⟩
      go_wp2
      go_ret
      exact ⟨ret_int HV2.out.symm, (hb1.trans hb2).trans hb3⟩
  · have hv : errF gs hs = errB gs hs := by unfold errF; rw [if_neg he]
    have HV := Lib.hid hv; clear hv
    have hne : (errB gs hs != 0) = true := by simpa using he
    go_enter Try.func47, Try.ntmps47
    go_wp2_with fail
    refine (both_any A B n c m d gs hs _ hR hS hn hm hmax hmax2).mono ?_
    rintro e w1 ⟨rfl, hb1⟩
    go_wp2
    go_ret
    exact ⟨ret_int HV.out.symm, hb1⟩

/-- How far l is ahead of m, up to a size. -/
def FinRel (gs hs : List (Int × Int)) (w5 : World) (a i : Value) (wr : World) : Prop :=
  ∃ k : Nat, k ≤ 21 ∧ i = .int .i64 k ∧ a = .int .i64 (sumB gs ((k : Int) - 1) - sumB hs ((k : Int) - 1)) ∧ Bel w5 wr ∧ ∀ j : Nat, j < k → sumB hs j ≤ sumB gs j

set_option maxHeartbeats 1000000 in
theorem wFiner_any (A B : Option Addr) (n c m d : Nat) (gs hs : List (Int × Int)) (w : World) (hR : Prs w A gs) (hS : Prs w B hs) (hn : gs.length = n) (hm : hs.length = m) (hmax : n ≤ maxLen) (hmax2 : m ≤ maxLen) :
    Calls Try.prog 29 #[.slice A n c, .slice B m d] w fun e w' => e = .returned (boolE (finV gs hs)) ∧ Bel w w' := by
  by_cases he : errF gs hs = 0
  · obtain ⟨e1, e2, e3⟩ := errF_zero he
    have f1 := fit_of gs e1
    have f2 := fit_of hs e2
    have l1 := (errV_zero e1).1
    have l2 := (errV_zero e2).1
    rw [hn] at l1
    rw [hm] at l2
    have hv : finV gs hs = (finB gs hs, 0) := by unfold finV; rw [if_pos he]
    have HV := Lib.hid hv; clear hv
    have HE := Lib.hid he; clear he
    clear e1 e2 e3
    have hs1 := fun (k : Nat) => sumB_step gs k
    have hs2 := fun (k : Nat) => sumB_step hs k
    have HS1 := Lib.hid hs1; have HS2 := Lib.hid hs2
    clear hs1 hs2
    have hb1 := fun (z : Int) => sumB_bd (gs := gs) z f1.mass
    have hb2 := fun (z : Int) => sumB_bd (gs := hs) z f2.mass
    have hb3 := fun (k : Nat) => massF_bd k f1.mass
    have hb4 := fun (k : Nat) => massF_bd k f2.mass
    rw [hn] at hb1 hb3
    rw [hm] at hb2 hb4
    have HB1 := Lib.hid hb1; have HB2 := Lib.hid hb2; have HB3 := Lib.hid hb3; have HB4 := Lib.hid hb4
    clear hb1 hb2 hb3 hb4
    have z1 := sumB_low f1 (z := ((0 : Nat) : Int) - 1) (by omega)
    have z2 := sumB_low f2 (z := ((0 : Nat) : Int) - 1) (by omega)
    have Z1 := Lib.hid z1; have Z2 := Lib.hid z2
    clear z1 z2
    obtain ⟨X, hX⟩ : ∃ X, arrL (massF gs) = X := ⟨_, rfl⟩
    obtain ⟨Y, hY⟩ : ∃ Y, arrL (massF hs) = Y := ⟨_, rfl⟩
    have xs : X.toArray.size = 21 := by rw [← hX, arr_size]
    have ys : Y.toArray.size = 21 := by rw [← hY, arr_size]
    have xo : X.toArray.all (·.oneCell') = true := by rw [← hX]; exact all_oneCell_toArray (arrL_one _)
    have yo : Y.toArray.all (·.oneCell') = true := by rw [← hY]; exact all_oneCell_toArray (arrL_one _)
    have xi : (Try.prog.info? 88).map (·.size) = some X.toArray.size := by rw [infoArr, xs]
    have yi : (Try.prog.info? 88).map (·.size) = some Y.toArray.size := by rw [infoArr, ys]
    have HX := Lib.hid hX; have HY := Lib.hid hY; have XS := Lib.hid xs; have YS := Lib.hid ys; have XO := Lib.hid xo; have YO := Lib.hid yo; have XI := Lib.hid xi; have YI := Lib.hid yi
    clear hX hY xs ys xo yo xi yi
    go_enter Try.func29, Try.ntmps29
    go_wp2_with fail
    refine (fit_any A B n c m d gs hs _ hR hS hn hm hmax hmax2).mono ?_
    rintro e w1 ⟨rfl, hb1⟩
    rw [HE.out]
    go_wp2_with fail
    refine (bySize_any A n c gs _ (hR.bel hb1) hn l1 f1).mono ?_
    rintro e w2 ⟨rfl, hb2⟩
    rw [HX.out]
    go_wp2_with fail
    refine (bySize_any B m d hs _ (hS.bel (hb1.trans hb2)) hm l2 f2).mono ?_
    rintro e w3 ⟨rfl, hb3⟩
    rw [HY.out]
    have hb13 : Bel w w3 := by (repeat (first | exact Bel.refl _ | assumption | refine Bel.drew ?_ | refine Bel.drewN ?_ _ | refine Bel.alloc ?_ _ | refine Bel.setCell ?_ (by first | omega | (simp; done) | (simp; omega) | (simp at *; omega)) _ | refine Bel.trans ?_ (by assumption)))
    have r1 := (zeros_row w3 88 _ rfl).alloc (.cells #[.int .i64 0, .int .i64 0, .int .i64 0, .int .i64 0, .int .i64 0, .int .i64 0, .int .i64 0, .int .i64 0, .int .i64 0, .int .i64 0, .int .i64 0, .int .i64 0, .int .i64 0, .int .i64 0, .int .i64 0, .int .i64 0, .int .i64 0, .int .i64 0, .int .i64 0, .int .i64 0, .int .i64 0] 88)
    have r2 := zeros_row (w3.alloc (.cells #[.int .i64 0, .int .i64 0, .int .i64 0, .int .i64 0, .int .i64 0, .int .i64 0, .int .i64 0, .int .i64 0, .int .i64 0, .int .i64 0, .int .i64 0, .int .i64 0, .int .i64 0, .int .i64 0, .int .i64 0, .int .i64 0, .int .i64 0, .int .i64 0, .int .i64 0, .int .i64 0, .int .i64 0] 88)) 88 (w3.heap.size + 1) (by simp)
    have t1 := r1.there
    rw [← XS.out] at t1
    have r3 := r1.stored (massF gs)
    rw [HX.out] at r3
    have r4 := r2.far' (show w3.heap.size + 1 ≠ w3.heap.size by omega) 0 X
    have t2 := r4.there
    rw [← YS.out] at t2
    have r5 := r4.stored (massF hs)
    rw [HY.out] at r5
    have r6 := r3.far' (show w3.heap.size ≠ w3.heap.size + 1 by omega) 0 Y
    have hb5 : Bel w3 ((((w3.alloc (.cells #[.int .i64 0, .int .i64 0, .int .i64 0, .int .i64 0, .int .i64 0, .int .i64 0, .int .i64 0, .int .i64 0, .int .i64 0, .int .i64 0, .int .i64 0, .int .i64 0, .int .i64 0, .int .i64 0, .int .i64 0, .int .i64 0, .int .i64 0, .int .i64 0, .int .i64 0, .int .i64 0, .int .i64 0] 88)).alloc (.cells #[.int .i64 0, .int .i64 0, .int .i64 0, .int .i64 0, .int .i64 0, .int .i64 0, .int .i64 0, .int .i64 0, .int .i64 0, .int .i64 0, .int .i64 0, .int .i64 0, .int .i64 0, .int .i64 0, .int .i64 0, .int .i64 0, .int .i64 0, .int .i64 0, .int .i64 0, .int .i64 0, .int .i64 0] 88)).setCells w3.heap.size 0 X).setCells (w3.heap.size + 1) 0 Y) := ((((Bel.refl w3).alloc _).alloc _).setCells (Nat.le_refl _) _ _).setCells (by omega) _ _
    have T1 := Lib.hid t1; have T2 := Lib.hid t2; have R5 := Lib.hid r5; have R6 := Lib.hid r6; have HB5 := Lib.hid hb5
    clear t1 t2 r1 r2 r3 r4 r5 r6 hb5
    go_wp2_with (first | (refine wpList_store_mid rfl 88 (.tmp 7) _ rfl w3.heap.size 0 X.toArray rfl rfl T1.out XI.out XO.out ?_) | (refine wpList_store_mid rfl 88 (.tmp 8) _ rfl (w3.heap.size + 1) 0 Y.toArray rfl rfl T2.out YI.out YO.out ?_))
    have r5 := R5.out
    have r6 := R6.out
    have hb5 := HB5.out
    clear R5 R6 HB5 T1 T2
    generalize ((((w3.alloc (.cells #[.int .i64 0, .int .i64 0, .int .i64 0, .int .i64 0, .int .i64 0, .int .i64 0, .int .i64 0, .int .i64 0, .int .i64 0, .int .i64 0, .int .i64 0, .int .i64 0, .int .i64 0, .int .i64 0, .int .i64 0, .int .i64 0, .int .i64 0, .int .i64 0, .int .i64 0, .int .i64 0, .int .i64 0] 88)).alloc (.cells #[.int .i64 0, .int .i64 0, .int .i64 0, .int .i64 0, .int .i64 0, .int .i64 0, .int .i64 0, .int .i64 0, .int .i64 0, .int .i64 0, .int .i64 0, .int .i64 0, .int .i64 0, .int .i64 0, .int .i64 0, .int .i64 0, .int .i64 0, .int .i64 0, .int .i64 0, .int .i64 0, .int .i64 0] 88)).setCells w3.heap.size 0 X).setCells (w3.heap.size + 1) 0 Y) = w5 at *
    go_loopw [9, 10, 21] (fun a _ i wr => FinRel gs hs w5 a i wr) (fun _ _ i _ => 21 - (intOf i).toNat)
    case atStart => exact ⟨0, Nat.zero_le _, rfl, by rw [Z1.out, Z2.out]; rfl, Bel.refl _, fun j hj => by omega⟩
    case round =>
      obtain ⟨k, hk, rfl, rfl, hb, hj⟩ := hrel
      have HJ := Lib.hid hj; clear hj
      by_cases hlt : k < 21
      · have q1 := (r6.bel hb).cells k hlt
        have q2 := (r5.bel hb).cells k hlt
        obtain ⟨a1, a2⟩ := HB1.out ((k : Int) - 1)
        obtain ⟨a3, a4⟩ := HB2.out ((k : Int) - 1)
        obtain ⟨a5, a6⟩ := HB3.out k
        obtain ⟨a7, a8⟩ := HB4.out k
        have s1 := HS1.out k
        have s2 := HS2.out k
        have hl1 := (r6.bel hb).lt
        have hl2 := (r5.bel hb).lt
        have hnew : sumB gs ((k : Int) - 1) - sumB hs ((k : Int) - 1) + (massF gs k - massF hs k) = sumB gs k - sumB hs k := by omega
        have hk1 : ((k + 1 : Nat) : Int) - 1 = (k : Int) := by omega
        have HK := Lib.hid hk1; clear hk1
        by_cases hf : sumB hs k ≤ sumB gs k
        · have hc : ¬ (sumB gs ((k : Int) - 1) - sumB hs ((k : Int) - 1) + (massF gs k - massF hs k) < 0) := by omega
          have HN := Lib.hid hnew
          have HF := Lib.hid hf
          clear hnew s1 s2 hf
          generalize hu : sumB gs ((k : Int) - 1) = u at *
          generalize hv : sumB hs ((k : Int) - 1) = v at *
          generalize massF gs k = x at *
          generalize massF hs k = y at *
          clear hu hv
          have hk21 : (k : Int) < 21 := by omega
          have hk0 : (0 : Int) ≤ (k : Int) := by omega
          have b1 : -1000 ≤ u - v ∧ u - v ≤ 1000 := by omega
          have b2 : -1000 ≤ x - y ∧ x - y ≤ 1000 := by omega
          have W1 := IntWalk.i64_in (x - y) (by omega)
          obtain ⟨z, hz⟩ : ∃ z, u - v + (x - y) = z := ⟨_, rfl⟩
          have W2 := IntWalk.i64_in (u - v + (x - y)) (by omega)
          have HZ := Lib.hid hz
          rw [hz] at W2 hc
          have W3 : wrap64 (u - v + (x - y)) = z := by rw [← HZ.out]; exact IntWalk.wrap64_in (u - v + (x - y)) ⟨by omega, by omega⟩
          clear hz b1 b2 a1 a2 a3 a4 a5 a6 a7 a8
          go_wp2
          go_quiet (fail)
          rw [W3]
          clear W1 W2 W3
          have hz0 : 0 ≤ z := by omega
          clear hc q1 q2 r5 r6 hb5 hl1 hl2 hR hS XI YI XO YO HX HY XS YS
          go_wp2
          go_roundw
          case rel =>
            refine ⟨k + 1, by omega, by go_num, by rw [HK.out, ← HN.out, HZ.out], by (repeat (first | exact Bel.refl _ | assumption | refine Bel.drew ?_ | refine Bel.drewN ?_ _ | refine Bel.alloc ?_ _ | refine Bel.setCell ?_ (by first | omega | (simp; done) | (simp; omega) | (simp at *; omega)) _ | refine Bel.trans ?_ (by assumption))), fun j hj => ?_⟩
            by_cases hjk : j = k
            · subst hjk; exact HF.out
            · exact HJ.out j (by omega)
          case measure => simp [intOf]; omega
        · have hc : sumB gs ((k : Int) - 1) - sumB hs ((k : Int) - 1) + (massF gs k - massF hs k) < 0 := by omega
          have HF : Hid (finB gs hs = false) := finB_false hlt hf
          clear hnew s1 s2 hf
          generalize hu : sumB gs ((k : Int) - 1) = u at *
          generalize hv : sumB hs ((k : Int) - 1) = v at *
          generalize massF gs k = x at *
          generalize massF hs k = y at *
          clear hu hv
          have hk21 : (k : Int) < 21 := by omega
          have hk0 : (0 : Int) ≤ (k : Int) := by omega
          have b1 : -1000 ≤ u - v ∧ u - v ≤ 1000 := by omega
          have b2 : -1000 ≤ x - y ∧ x - y ≤ 1000 := by omega
          have W1 := IntWalk.i64_in (x - y) (by omega)
          obtain ⟨z, hz⟩ : ∃ z, u - v + (x - y) = z := ⟨_, rfl⟩
          have W2 := IntWalk.i64_in (u - v + (x - y)) (by omega)
          have HZ := Lib.hid hz
          rw [hz] at W2 hc
          have W3 : wrap64 (u - v + (x - y)) = z := by rw [← HZ.out]; exact IntWalk.wrap64_in (u - v + (x - y)) ⟨by omega, by omega⟩
          clear hz b1 b2 a1 a2 a3 a4 a5 a6 a7 a8
          go_wp2
          go_quiet (fail)
          rw [W3]
          clear W1 W2 W3
          go_wp2
          go_ret2
          exact ⟨boolE_mk (by rw [HV.out, HF.out]), by (repeat (first | exact Bel.refl _ | assumption | refine Bel.drew ?_ | refine Bel.drewN ?_ _ | refine Bel.alloc ?_ _ | refine Bel.setCell ?_ (by first | omega | (simp; done) | (simp; omega) | (simp at *; omega)) _ | refine Bel.trans ?_ (by assumption)))⟩
      · obtain rfl : k = 21 := by omega
        have HF : Hid (finB gs hs = true) := finB_true HJ.out
        go_wp2
        go_ret2
        exact ⟨boolE_mk (by rw [HV.out, HF.out]), by (repeat (first | exact Bel.refl _ | assumption | refine Bel.drew ?_ | refine Bel.drewN ?_ _ | refine Bel.alloc ?_ _ | refine Bel.setCell ?_ (by first | omega | (simp; done) | (simp; omega) | (simp at *; omega)) _ | refine Bel.trans ?_ (by assumption)))⟩
  · have hv : finV gs hs = (false, errF gs hs) := by unfold finV; rw [if_neg he]
    have HV := Lib.hid hv; clear hv
    have hne : (errF gs hs != 0) = true := by simpa using he
    go_enter Try.func29, Try.ntmps29
    go_wp2_with fail
    refine (fit_any A B n c m d gs hs _ hR hS hn hm hmax hmax2).mono ?_
    rintro e w1 ⟨rfl, hb1⟩
    go_wp2
    go_ret2
    exact ⟨boolE_mk HV.out, hb1⟩
end Go.Proofs.Ytmbhhooiaonhjaa

