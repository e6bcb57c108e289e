/- feud: Count, Terms, Orders; the known answers. -/
import Derived.Test.YtcndmfkbfimllaaP
namespace Go.Proofs.Ytcndmfkbfimllaa
open Go.RowKit Go.Maps

theorem errF_zero {p : Int} {F : List (Int × Int)} (h : errF p F = 0) : (1 ≤ p ∧ p ≤ 7) ∧ F.all (okF p) = true ∧ F.Nodup := by
  unfold errF at h
  split at h
  · rename_i h1
    split at h
    · rename_i h2
      split at h
      · exact ⟨h1, h2, by assumption⟩
      · omega
    · omega
  · omega
theorem errF_cases (p : Int) (F : List (Int × Int)) : errF p F = 0 ∨ errF p F = 1 ∨ errF p F = 6 := by
  unfold errF
  split
  · split
    · split <;> simp
    · simp
  · simp
/-- The error of a shop and a number of shelves. -/
def errSh (p : Int) (F : List (Int × Int)) (sh : Int) : Int := if errF p F = 0 then if 1 ≤ sh ∧ sh ≤ 9 then 0 else 1 else errF p F
theorem errSh_bad {p : Int} {F : List (Int × Int)} {sh : Int} (h : errF p F ≠ 0) : errSh p F sh = errF p F := by unfold errSh; rw [if_neg h]
theorem errSh_no {p : Int} {F : List (Int × Int)} {sh : Int} (h : errF p F = 0) (hs : ¬ (1 ≤ sh ∧ sh ≤ 9)) : errSh p F sh = 1 := by unfold errSh; rw [if_pos h, if_neg hs]
theorem errSh_ok {p : Int} {F : List (Int × Int)} {sh : Int} (h : errF p F = 0) (hs : 1 ≤ sh ∧ sh ≤ 9) : errSh p F sh = 0 := by unfold errSh; rw [if_pos h, if_pos hs]
/-- A shop that is right, by natural numbers. -/
structure Shop (p : Nat) (G : List (Nat × Nat)) : Prop where
  p1 : 1 ≤ p
  p7 : p ≤ 7
  ok : ∀ f ∈ G, f.1 < f.2 ∧ f.2 < p
  nd : G.Nodup
theorem Shop.small {p : Nat} {G : List (Nat × Nat)} (h : Shop p G) : Small G := fun f hf => by have := h.ok f hf; have := h.p7; omega
theorem Shop.err {p : Nat} {G : List (Nat × Nat)} (h : Shop p G) : errF (p : Int) (up G) = 0 := by
  have h1 := h.p1
  have h7 := h.p7
  unfold errF
  rw [if_pos (by omega), if_pos (List.all_eq_true.2 fun f hf => by
    obtain ⟨g, hg, rfl⟩ := List.mem_map.1 hf
    have := h.ok g hg
    exact okF_iff.2 (by simp only; omega)), if_pos ((up_nodup G).2 h.nd)]
theorem shop_of {p : Int} {F : List (Int × Int)} (h : errF p F = 0) : ∃ (q : Nat) (G : List (Nat × Nat)), p = q ∧ F = up G ∧ Shop q G := by
  obtain ⟨⟨h1, h7⟩, h2, h3⟩ := errF_zero h
  refine ⟨p.toNat, down F, by omega, (up_down h2).symm, by omega, by omega, fun f hf => ?_, (down_nodup h2).2 h3⟩
  obtain ⟨g, hg, rfl⟩ := List.mem_map.1 hf
  have := okF_iff.1 (List.all_eq_true.1 h2 g hg)
  simp only
  omega

set_option maxRecDepth 100000 in
theorem validateShelves_any (p : Int) (A : Option Addr) (n c : Nat) (F : List (Int × Int)) (sh : Int) (w : World) (hR : Prs w A F) (hn : F.length = n) (h60 : n ≤ 900) :
    Calls Try.prog 92 #[.agg #[.int .i64 p, .slice A n c], .int .i64 sh] w fun e w' => e = .returned (.int .i64 (errSh p F sh)) ∧ Bel w w' := by
  have Hn := Lib.hid hn
  clear hn
  by_cases he : errF p F = 0
  · have HE := Lib.hid he
    by_cases hs : 1 ≤ sh ∧ sh ≤ 9
    · have HS := Lib.hid (errSh_ok he hs)
      obtain ⟨s1, s9⟩ := hs
      clear he
      go_enter Try.func92, Try.ntmps92
      go_wp2_with fail
      refine (validate_any p A n c F _ (hR.bel (by (repeat (first | exact Bel.refl _ | assumption | refine Bel.drew ?_ | refine Bel.drewN ?_ _ | refine Bel.alloc ?_ _ | refine Bel.setCell ?_ (by first | omega | (simp; done) | (simp; omega) | (simp at *; omega)) _ | refine Bel.trans ?_ (by assumption))))) Hn.out h60).mono ?_
      rintro e w1 ⟨rfl, hb1⟩
      rw [HE.out]
      go_wp2
      go_ret
      exact ⟨ret_int HS.out.symm, by (repeat (first | exact Bel.refl _ | assumption | refine Bel.drew ?_ | refine Bel.drewN ?_ _ | refine Bel.alloc ?_ _ | refine Bel.setCell ?_ (by first | omega | (simp; done) | (simp; omega) | (simp at *; omega)) _ | refine Bel.trans ?_ (by assumption)))⟩
    · have HS := Lib.hid (errSh_no he hs)
      clear he
      rcases (by omega : sh < 1 ∨ 9 < sh) with h1 | h1
      · clear hs
        go_enter Try.func92, Try.ntmps92
        go_wp2_with fail
        refine (validate_any p A n c F _ (hR.bel (by (repeat (first | exact Bel.refl _ | assumption | refine Bel.drew ?_ | refine Bel.drewN ?_ _ | refine Bel.alloc ?_ _ | refine Bel.setCell ?_ (by first | omega | (simp; done) | (simp; omega) | (simp at *; omega)) _ | refine Bel.trans ?_ (by assumption))))) Hn.out h60).mono ?_
        rintro e w1 ⟨rfl, hb1⟩
        rw [HE.out]
        go_wp2
        go_ret
        exact ⟨ret_int HS.out.symm, by (repeat (first | exact Bel.refl _ | assumption | refine Bel.drew ?_ | refine Bel.drewN ?_ _ | refine Bel.alloc ?_ _ | refine Bel.setCell ?_ (by first | omega | (simp; done) | (simp; omega) | (simp at *; omega)) _ | refine Bel.trans ?_ (by assumption)))⟩
      · have h2 : 1 ≤ sh := by omega
        clear hs
        go_enter Try.func92, Try.ntmps92
        go_wp2_with fail
        refine (validate_any p A n c F _ (hR.bel (by (repeat (first | exact Bel.refl _ | assumption | refine Bel.drew ?_ | refine Bel.drewN ?_ _ | refine Bel.alloc ?_ _ | refine Bel.setCell ?_ (by first | omega | (simp; done) | (simp; omega) | (simp at *; omega)) _ | refine Bel.trans ?_ (by assumption))))) Hn.out h60).mono ?_
        rintro e w1 ⟨rfl, hb1⟩
        rw [HE.out]
        go_wp2
        go_ret
        exact ⟨ret_int HS.out.symm, by (repeat (first | exact Bel.refl _ | assumption | refine Bel.drew ?_ | refine Bel.drewN ?_ _ | refine Bel.alloc ?_ _ | refine Bel.setCell ?_ (by first | omega | (simp; done) | (simp; omega) | (simp at *; omega)) _ | refine Bel.trans ?_ (by assumption)))⟩
  · have HS := Lib.hid (errSh_bad (sh := sh) he)
    obtain ⟨x, hx⟩ : ∃ x, x = errF p F := ⟨_, rfl⟩
    have hne : (x != 0) = true := by rw [hx]; simpa using he
    have HX := Lib.hid hx
    clear he hx
    go_enter Try.func92, Try.ntmps92
    go_wp2_with fail
    refine (validate_any p A n c F _ (hR.bel (by (repeat (first | exact Bel.refl _ | assumption | refine Bel.drew ?_ | refine Bel.drewN ?_ _ | refine Bel.alloc ?_ _ | refine Bel.setCell ?_ (by first | omega | (simp; done) | (simp; omega) | (simp at *; omega)) _ | refine Bel.trans ?_ (by assumption))))) Hn.out h60).mono ?_
    rintro e w1 ⟨rfl, hb1⟩
    rw [← HX.out]
    go_wp2
    go_ret
    exact ⟨ret_int (HX.out.trans HS.out.symm), by (repeat (first | exact Bel.refl _ | assumption | refine Bel.drew ?_ | refine Bel.drewN ?_ _ | refine Bel.alloc ?_ _ | refine Bel.setCell ?_ (by first | omega | (simp; done) | (simp; omega) | (simp at *; omega)) _ | refine Bel.trans ?_ (by assumption)))⟩
set_option maxRecDepth 100000 in
theorem count_err (p : Int) (A : Option Addr) (n c : Nat) (F : List (Int × Int)) (sh : Int) (w : World) (hR : Prs w A F) (hn : F.length = n) (h60 : n ≤ 900) (he : errSh p F sh ≠ 0) :
    Calls Try.prog 63 #[.agg #[.int .i64 p, .slice A n c], .int .i64 sh] w fun e w' => e = .returned (.tuple #[.int .i64 0, .int .i64 (errSh p F sh)]) ∧ Bel w w' := by
  obtain ⟨x, hx⟩ : ∃ x, x = errSh p F sh := ⟨_, rfl⟩
  have hne : (x != 0) = true := by rw [hx]; simpa using he
  rw [← hx]
  have HX := Lib.hid hx
  have Hn := Lib.hid hn
  clear he hx hn
  go_enter Try.func63, Try.ntmps63
  go_wp2_with fail
  refine (validateShelves_any p A n c F sh _ (hR.bel (by (repeat (first | exact Bel.refl _ | assumption | refine Bel.drew ?_ | refine Bel.drewN ?_ _ | refine Bel.alloc ?_ _ | refine Bel.setCell ?_ (by first | omega | (simp; done) | (simp; omega) | (simp at *; omega)) _ | refine Bel.trans ?_ (by assumption))))) Hn.out h60).mono ?_
  rintro e w1 ⟨rfl, hb1⟩
  rw [← HX.out]
  go_wp2
  go_ret2
  exact ⟨rfl, by (repeat (first | exact Bel.refl _ | assumption | refine Bel.drew ?_ | refine Bel.drewN ?_ _ | refine Bel.alloc ?_ _ | refine Bel.setCell ?_ (by first | omega | (simp; done) | (simp; omega) | (simp at *; omega)) _ | refine Bel.trans ?_ (by assumption)))⟩
set_option maxRecDepth 100000 in
theorem count_ok (p : Nat) (A : Option Addr) (n c : Nat) (G : List (Nat × Nat)) (sh : Int) (w : World) (hR : Prs w A (up G)) (hn : G.length = n) (h60 : n ≤ 900) (hS : Shop p G) (h1 : 1 ≤ sh) (h9 : sh ≤ 9) :
    Calls Try.prog 63 #[.agg #[.int .i64 (p : Int), .slice A n c], .int .i64 sh] w fun e w' => e = .returned (.tuple #[.int .i64 (valL sh (termsL G p)), .int .i64 0]) ∧ Bel w w' := by
  have HE := Lib.hid (errSh_ok hS.err ⟨h1, h9⟩)
  have Hn := Lib.hid hn
  have Hu := Lib.hid (show (up G).length = n by rw [up_length]; exact hn)
  have HSm := Lib.hid hS.small
  have HB := Lib.hid (termsL_big G hS.p7)
  have HTL := Lib.hid (termsL_length G p)
  have p7 := hS.p7
  have Held := Lib.hid (fun w' (h : Bel (w.alloc (.cells #[.int .i64 (p : Int), .slice A n c] 24)) w') => pair_box h)
  clear hn hS
  go_enter Try.func63, Try.ntmps63
  go_wp2_with fail
  refine (validateShelves_any p A n c (up G) sh _ (hR.bel (by (repeat (first | exact Bel.refl _ | assumption | refine Bel.drew ?_ | refine Bel.drewN ?_ _ | refine Bel.alloc ?_ _ | refine Bel.setCell ?_ (by first | omega | (simp; done) | (simp; omega) | (simp at *; omega)) _ | refine Bel.trans ?_ (by assumption))))) Hu.out h60).mono ?_
  rintro e w1 ⟨rfl, hb1⟩
  rw [HE.out]
  obtain ⟨c0, c1⟩ := Held.out _ hb1
  go_wp2_with fail
  refine (shopOf_any p A n c G _ (hR.bel (by (repeat (first | exact Bel.refl _ | assumption | refine Bel.drew ?_ | refine Bel.drewN ?_ _ | refine Bel.alloc ?_ _ | refine Bel.setCell ?_ (by first | omega | (simp; done) | (simp; omega) | (simp at *; omega)) _ | refine Bel.trans ?_ (by assumption))))) Hn.out h60 HSm.out).mono ?_
  rintro e w2 ⟨M, rfl, hF, hb2, hM⟩
  clear c0 c1
  go_wp2_with fail
  refine (terms_any p M G _ hF p7).mono ?_
  rintro e w3 ⟨A3, n3, c3, rfl, hn3, hb3, hI3⟩
  have HN3 := Lib.hid hn3
  have hn8 : n3 ≤ 8 := by rw [hn3, HTL.out]; omega
  clear hn3
  go_wp2_with fail
  refine (valueAt_any sh A3 n3 c3 (termsL G p) _ hI3 HN3.out.symm hn8 (by omega) h9 HB.out).mono ?_
  rintro e w4 ⟨rfl, rfl⟩
  go_wp2
  go_ret2
  exact ⟨rfl, by (repeat (first | exact Bel.refl _ | assumption | refine Bel.drew ?_ | refine Bel.drewN ?_ _ | refine Bel.alloc ?_ _ | refine Bel.setCell ?_ (by first | omega | (simp; done) | (simp; omega) | (simp at *; omega)) _ | refine Bel.trans ?_ (by assumption)))⟩
set_option maxRecDepth 100000 in
theorem terms_err (p : Int) (A : Option Addr) (n c : Nat) (F : List (Int × Int)) (w : World) (hR : Prs w A F) (hn : F.length = n) (h60 : n ≤ 900) (he : errF p F ≠ 0) :
    Calls Try.prog 65 #[.agg #[.int .i64 p, .slice A n c]] w fun e w' => e = .returned (.tuple #[.slice none 0 0, .int .i64 (errF p F)]) ∧ Bel w w' := by
  obtain ⟨x, hx⟩ : ∃ x, x = errF p F := ⟨_, rfl⟩
  have hne : (x != 0) = true := by rw [hx]; simpa using he
  rw [← hx]
  have HX := Lib.hid hx
  have Hn := Lib.hid hn
  clear he hx hn
  go_enter Try.func65, Try.ntmps65
  go_wp2_with fail
  refine (validate_any p A n c F _ (hR.bel (by (repeat (first | exact Bel.refl _ | assumption | refine Bel.drew ?_ | refine Bel.drewN ?_ _ | refine Bel.alloc ?_ _ | refine Bel.setCell ?_ (by first | omega | (simp; done) | (simp; omega) | (simp at *; omega)) _ | refine Bel.trans ?_ (by assumption))))) Hn.out h60).mono ?_
  rintro e w1 ⟨rfl, hb1⟩
  rw [← HX.out]
  go_wp2
  go_ret2
  exact ⟨rfl, by (repeat (first | exact Bel.refl _ | assumption | refine Bel.drew ?_ | refine Bel.drewN ?_ _ | refine Bel.alloc ?_ _ | refine Bel.setCell ?_ (by first | omega | (simp; done) | (simp; omega) | (simp at *; omega)) _ | refine Bel.trans ?_ (by assumption)))⟩
/-- A new list, and no error. -/
def NewsOk (w : World) (l : List Int) (e : Ending) (w' : World) : Prop := ∃ A n c, e = .returned (.tuple #[.slice A n c, .int .i64 0]) ∧ n = l.length ∧ Bel w w' ∧ Ints w' A l
set_option maxRecDepth 100000 in
theorem terms_ok (p : Nat) (A : Option Addr) (n c : Nat) (G : List (Nat × Nat)) (w : World) (hR : Prs w A (up G)) (hn : G.length = n) (h60 : n ≤ 900) (hS : Shop p G) :
    Calls Try.prog 65 #[.agg #[.int .i64 (p : Int), .slice A n c]] w (NewsOk w (termsL G p)) := by
  have HE := Lib.hid hS.err
  have Hn := Lib.hid hn
  have Hu := Lib.hid (show (up G).length = n by rw [up_length]; exact hn)
  have HSm := Lib.hid hS.small
  have p7 := hS.p7
  have Held := Lib.hid (fun w' (h : Bel (w.alloc (.cells #[.int .i64 (p : Int), .slice A n c] 24)) w') => pair_box h)
  clear hn hS
  go_enter Try.func65, Try.ntmps65
  go_wp2_with fail
  refine (validate_any p A n c (up G) _ (hR.bel (by (repeat (first | exact Bel.refl _ | assumption | refine Bel.drew ?_ | refine Bel.drewN ?_ _ | refine Bel.alloc ?_ _ | refine Bel.setCell ?_ (by first | omega | (simp; done) | (simp; omega) | (simp at *; omega)) _ | refine Bel.trans ?_ (by assumption))))) Hu.out h60).mono ?_
  rintro e w1 ⟨rfl, hb1⟩
  rw [HE.out]
  obtain ⟨c0, c1⟩ := Held.out _ hb1
  go_wp2_with fail
  refine (shopOf_any p A n c G _ (hR.bel (by (repeat (first | exact Bel.refl _ | assumption | refine Bel.drew ?_ | refine Bel.drewN ?_ _ | refine Bel.alloc ?_ _ | refine Bel.setCell ?_ (by first | omega | (simp; done) | (simp; omega) | (simp at *; omega)) _ | refine Bel.trans ?_ (by assumption))))) Hn.out h60 HSm.out).mono ?_
  rintro e w2 ⟨M, rfl, hF, hb2, hM⟩
  clear c0 c1
  go_wp2_with fail
  refine (terms_any p M G _ hF p7).mono ?_
  rintro e w3 ⟨A3, n3, c3, rfl, hn3, hb3, hI3⟩
  have HN3 := Lib.hid hn3
  clear hn3
  go_wp2
  go_ret2
  exact ⟨A3, n3, c3, rfl, HN3.out, by (repeat (first | exact Bel.refl _ | assumption | refine Bel.drew ?_ | refine Bel.drewN ?_ _ | refine Bel.alloc ?_ _ | refine Bel.setCell ?_ (by first | omega | (simp; done) | (simp; omega) | (simp at *; omega)) _ | refine Bel.trans ?_ (by assumption))), hI3⟩
end Go.Proofs.Ytcndmfkbfimllaa
