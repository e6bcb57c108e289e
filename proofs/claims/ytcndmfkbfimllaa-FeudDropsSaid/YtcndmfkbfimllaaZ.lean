/- Feuds by both; Long, many. -/
import Derived.Test.YtcndmfkbfimllaaY
namespace Go.Proofs.Ytcndmfkbfimllaa
open Go.RowKit Go.Maps

/-- What Feuds answers. -/
def foesV (p : Int) (F : List (Int × Int)) (a : Int) : List Int := if errP p F a = 0 then upN (foesTo (down F) a.toNat p.toNat) else []
theorem ret_sl {A : Option Addr} {n c : Nat} {x y : Int} (h : x = y) : Ending.returned (.tuple #[.slice A n c, .int .i64 x]) = .returned (.tuple #[.slice A n c, .int .i64 y]) := by rw [h]
def FeudsAt (p : Int) (F : List (Int × Int)) (a : Int) (w : World) (e : Ending) (w' : World) : Prop := ∃ A n c, e = .returned (.tuple #[.slice A n c, .int .i64 (errP p F a)]) ∧ n = (foesV p F a).length ∧ Bel w w' ∧ Ints w' A (foesV p F a)
theorem foesV_len (p : Int) (F : List (Int × Int)) (a : Int) : (foesV p F a).length ≤ 7 := by
  unfold foesV
  split
  · rename_i h
    have h2 := foesTo_len (down F) a.toNat p.toNat
    rw [upN_length]
    by_cases he : errF p F = 0
    · have := (errF_zero he).1; omega
    · rw [errP_bad he] at h; exact absurd h he
  · simp
theorem foesV_ok {p : Nat} {G : List (Nat × Nat)} {a : Nat} (hS : Shop p G) (ha : a < p) : foesV (p : Int) (up G) (a : Int) = upN (foesTo G a p) := by
  unfold foesV
  rw [if_pos (errP_ok hS.err (by omega)), down_up]
  rfl
theorem paint_of {p : Int} {F : List (Int × Int)} {a : Int} (h : errP p F a = 0) : ∃ (q : Nat) (G : List (Nat × Nat)) (b : Nat), p = q ∧ F = up G ∧ a = b ∧ Shop q G ∧ b < q := by
  by_cases he : errF p F = 0
  · obtain ⟨q, G, rfl, rfl, hS⟩ := shop_of he
    by_cases ha : 0 ≤ a ∧ a < (q : Int)
    · exact ⟨q, G, a.toNat, rfl, rfl, by omega, hS, by omega⟩
    · rw [errP_no he ha] at h; cases h
  · rw [errP_bad he] at h; exact absurd h he
theorem rFeuds_any (p : Int) (A : Option Addr) (n c : Nat) (F : List (Int × Int)) (a : Int) (w : World) (hR : Prs w A F) (hn : F.length = n) (h60 : n ≤ 900) :
    Calls Try.prog 38 #[.agg #[.int .i64 p, .slice A n c], .int .i64 a] w (FeudsAt p F a w) := by
  by_cases he : errP p F a = 0
  · obtain ⟨q, G, b, rfl, rfl, rfl, hS, hb⟩ := paint_of he
    refine (rFeuds_ok q A n c G b w hR (by rw [← hn, up_length]) h60 hS hb).mono ?_
    rintro e w' ⟨A', n', c', rfl, hn', hb', hI⟩
    refine ⟨A', n', c', by rw [he], ?_, hb', ?_⟩ <;> rw [foesV_ok hS hb]
    · exact hn'
    · exact hI
  · refine (rFeuds_err p A n c F a w hR hn h60 he).mono ?_
    rintro e w' ⟨rfl, hb'⟩
    have : foesV p F a = [] := by unfold foesV; rw [if_neg he]
    exact ⟨none, 0, 0, rfl, by rw [this]; rfl, hb', by rw [this]; exact .inl rfl⟩
set_option maxRecDepth 100000 in
theorem fFeuds_any (p : Int) (A : Option Addr) (n c : Nat) (F : List (Int × Int)) (a : Int) (w : World) (hR : Prs w A F) (hn : F.length = n) (h60 : n ≤ 900) :
    Calls Try.prog 41 #[.agg #[.int .i64 p, .slice A n c], .int .i64 a] w (FeudsAt p F a w) := by
  have Hn := Lib.hid hn
  have Held := Lib.hid (fun w' (h : Bel (w.alloc (.cells #[.int .i64 p, .slice A n c] 24)) w') => pair_box h)
  by_cases he : errF p F = 0
  · by_cases ha : 0 ≤ a ∧ a < p
    · obtain ⟨q, G, b, rfl, rfl, rfl, hS, hb⟩ := paint_of (errP_ok he ha)
      have HE := Lib.hid he
      have HP := Lib.hid (errP_ok he ha)
      have HV := Lib.hid (foesV_ok hS hb)
      have HPB := Lib.hid (paintB_iff.2 ha)
      have HG := Lib.hid (show G.length = n by rw [← hn, up_length])
      have HSm := Lib.hid hS.small
      have q7 := hS.p7
      clear he ha hn hS
      go_enter Try.func41, Try.ntmps41
      go_wp2_with fail
      refine (validate_any q A n c (up G) _ (hR.bel (by (repeat (first | exact Bel.refl _ | assumption | refine Bel.drew ?_ | refine Bel.drewN ?_ _ | refine Bel.alloc ?_ _ | refine Bel.setCell ?_ (by first | omega | (simp; done) | (simp; omega) | (simp at *; omega)) _ | refine Bel.trans ?_ (by assumption))))) Hn.out h60).mono ?_
      rintro e w1 ⟨rfl, hb1⟩
      rw [HE.out]
      obtain ⟨b0, b1⟩ := Held.out _ hb1
      go_wp2_with fail
      refine (isPaint_any q A n c b _).mono ?_
      rintro e w2 ⟨rfl, hb2⟩
      rw [HPB.out]
      clear b0 b1
      obtain ⟨b0, b1⟩ := Held.out _ (hb1.trans hb2)
      go_wp2_with fail
      refine (shopOf_any q A n c G _ (hR.bel (((Bel.refl w).alloc _).trans (hb1.trans hb2))) HG.out h60 HSm.out).mono ?_
      rintro e w3 ⟨M, rfl, hF, hb3, hM⟩
      go_wp2_with fail
      refine (foes_any q M G b _ hF q7 (by omega)).mono ?_
      rintro e w4 ⟨A4, n4, c4, rfl, hn4, hb4, hI4⟩
      have HN4 := Lib.hid hn4
      clear hn4
      go_wp2
      go_ret2
      exact ⟨A4, n4, c4, ret_sl HP.out.symm, by rw [HV.out]; exact HN4.out, by (repeat (first | exact Bel.refl _ | assumption | refine Bel.drew ?_ | refine Bel.drewN ?_ _ | refine Bel.alloc ?_ _ | refine Bel.setCell ?_ (by first | omega | (simp; done) | (simp; omega) | (simp at *; omega)) _ | refine Bel.trans ?_ (by assumption))), by rw [HV.out]; exact hI4⟩
    · have HE := Lib.hid he
      have HP := Lib.hid (errP_no he ha)
      have HPB := Lib.hid (paintB_no (a := a) (p := p) ha)
      have HV := Lib.hid (show foesV p F a = [] by unfold foesV; rw [errP_no he ha]; rfl)
      clear he ha hn
      go_enter Try.func41, Try.ntmps41
      go_wp2_with fail
      refine (validate_any p A n c F _ (hR.bel (by (repeat (first | exact Bel.refl _ | assumption | refine Bel.drew ?_ | refine Bel.drewN ?_ _ | refine Bel.alloc ?_ _ | refine Bel.setCell ?_ (by first | omega | (simp; done) | (simp; omega) | (simp at *; omega)) _ | refine Bel.trans ?_ (by assumption))))) Hn.out h60).mono ?_
      rintro e w1 ⟨rfl, hb1⟩
      rw [HE.out]
      obtain ⟨b0, b1⟩ := Held.out _ hb1
      go_wp2_with fail
      refine (isPaint_any p A n c a _).mono ?_
      rintro e w2 ⟨rfl, hb2⟩
      rw [HPB.out]
      go_wp2
      go_ret2
      exact ⟨none, 0, 0, ret_sl HP.out.symm, by rw [HV.out]; rfl, by (repeat (first | exact Bel.refl _ | assumption | refine Bel.drew ?_ | refine Bel.drewN ?_ _ | refine Bel.alloc ?_ _ | refine Bel.setCell ?_ (by first | omega | (simp; done) | (simp; omega) | (simp at *; omega)) _ | refine Bel.trans ?_ (by assumption))), by rw [HV.out]; exact .inl rfl⟩
  · have HP := Lib.hid (errP_bad (a := a) he)
    have HV := Lib.hid (show foesV p F a = [] by unfold foesV; rw [errP_bad he, if_neg he])
    obtain ⟨x, hx⟩ : ∃ x, x = errF p F := ⟨_, rfl⟩
    have hne : (x != 0) = true := by rw [hx]; simpa using he
    have HX := Lib.hid hx
    clear he hx hn
    go_enter Try.func41, Try.ntmps41
    go_wp2_with fail
    refine (validate_any p A n c F _ (hR.bel (by (repeat (first | exact Bel.refl _ | assumption | refine Bel.drew ?_ | refine Bel.drewN ?_ _ | refine Bel.alloc ?_ _ | refine Bel.setCell ?_ (by first | omega | (simp; done) | (simp; omega) | (simp at *; omega)) _ | refine Bel.trans ?_ (by assumption))))) Hn.out h60).mono ?_
    rintro e w1 ⟨rfl, hb1⟩
    rw [← HX.out]
    go_wp2
    go_ret2
    exact ⟨none, 0, 0, ret_sl (HX.out.trans HP.out.symm), by rw [HV.out]; rfl, by (repeat (first | exact Bel.refl _ | assumption | refine Bel.drew ?_ | refine Bel.drewN ?_ _ | refine Bel.alloc ?_ _ | refine Bel.setCell ?_ (by first | omega | (simp; done) | (simp; omega) | (simp at *; omega)) _ | refine Bel.trans ?_ (by assumption))), by rw [HV.out]; exact .inl rfl⟩
theorem long_any (p : Int) (A : Option Addr) (n c : Nat) (w : World) : Calls Try.prog 35 #[.agg #[.int .i64 p, .slice A n c]] w fun e w' => e = .returned (.bool (decide (60 < n))) ∧ Bel w w' := by
  by_cases h : 60 < n
  · have h2 : 60 < (n : Int) := by omega
    have HF := Lib.hid (decide_eq_true h)
    rw [HF.out]
    clear h
    go_enter Try.func35, Try.ntmps35
    go_wp2
    go_ret
    exact ⟨rfl, by (repeat (first | exact Bel.refl _ | assumption | refine Bel.drew ?_ | refine Bel.drewN ?_ _ | refine Bel.alloc ?_ _ | refine Bel.setCell ?_ (by first | omega | (simp; done) | (simp; omega) | (simp at *; omega)) _ | refine Bel.trans ?_ (by assumption)))⟩
  · have h2 : (n : Int) ≤ 60 := by omega
    have HF := Lib.hid (decide_eq_false h)
    rw [HF.out]
    clear h
    go_enter Try.func35, Try.ntmps35
    go_wp2
    go_ret
    exact ⟨ret_bool (by simpa using h2), by (repeat (first | exact Bel.refl _ | assumption | refine Bel.drew ?_ | refine Bel.drewN ?_ _ | refine Bel.alloc ?_ _ | refine Bel.setCell ?_ (by first | omega | (simp; done) | (simp; omega) | (simp at *; omega)) _ | refine Bel.trans ?_ (by assumption)))⟩
theorem many_any (A : Option Addr) (n c : Nat) (w : World) : Calls Try.prog 36 #[.slice A n c] w fun e w' => e = .returned (.bool (decide (40 < n))) ∧ w = w' := by
  by_cases h : 40 < n
  · have h2 : 40 < (n : Int) := by omega
    have HF := Lib.hid (decide_eq_true h)
    rw [HF.out]
    clear h
    go_enter Try.func36, Try.ntmps36
    go_wp2
    go_ret
    exact ⟨rfl, rfl⟩
  · have h2 : (n : Int) ≤ 40 := by omega
    have HF := Lib.hid (decide_eq_false h)
    rw [HF.out]
    clear h
    go_enter Try.func36, Try.ntmps36
    go_wp2
    go_ret
    exact ⟨ret_bool (by simpa using h2), rfl⟩
end Go.Proofs.Ytcndmfkbfimllaa
