/- Merge: errors of both; the document's old. -/
import Derived.Test.YtcndmfkbfimllaaBF
namespace Go.Proofs.Ytcndmfkbfimllaa
open Go.RowKit Go.Maps

set_option maxRecDepth 100000 in
theorem merge_err (p : Int) (A : Option Addr) (n c : Nat) (F : List (Int × Int)) (k : Int) (w : World) (hR : Prs w A F) (hn : F.length = n) (h60 : n ≤ 900) (he : errK p F k ≠ 0) :
    Calls Try.prog 75 #[.agg #[.int .i64 p, .slice A n c], .int .i64 k] w (ShopErr w (errK p F k)) := by
  obtain ⟨x, hx⟩ : ∃ x, x = errK p F k := ⟨_, rfl⟩
  have hne : (x != 0) = true := by rw [hx]; simpa using he
  rw [← hx]
  have HX := Lib.hid hx
  have Hn := Lib.hid hn
  clear he hx hn
  go_enter Try.func75, Try.ntmps75
  go_wp2_with fail
  refine (validateFeud_any p A n c F k _ (hR.bel (by (repeat (first | exact Bel.refl _ | assumption | refine Bel.drew ?_ | refine Bel.drewN ?_ _ | refine Bel.alloc ?_ _ | refine Bel.setCell ?_ (by first | omega | (simp; done) | (simp; omega) | (simp at *; omega)) _ | refine Bel.trans ?_ (by assumption))))) Hn.out h60).mono ?_
  rintro e w1 ⟨rfl, hb1⟩
  rw [← HX.out]
  have hsz2 : w.heap.size + 1 < w1.heap.size := by have := hb1.size; simp at this; omega
  have r0 : w1.cell? ⟨w.heap.size + 1, 0, none⟩ = some (.int .i64 0) := by rw [hb1.use.1 _ _ (by simp)]; go_simp
  have r1 : w1.cell? ⟨w.heap.size + 1, 1, none⟩ = some (.slice none 0 0) := by rw [hb1.use.1 _ _ (by simp)]; go_simp
  have rf0 : w1.frozen? ⟨w.heap.size + 1, 0, none⟩ = false := by rw [hb1.use.2.1 _ _ (by simp)]; go_simp
  have rf1 : w1.frozen? ⟨w.heap.size + 1, 1, none⟩ = false := by rw [hb1.use.2.1 _ _ (by simp)]; go_simp
  have HR0 := Lib.hid r0; have HR1 := Lib.hid r1
  go_wp2
  obtain ⟨q0, q1⟩ := stored2 (x := .int .i64 0) (y := .slice none 0 0) HR0.out HR1.out
  exact bodyPost_ret (v := .tuple #[.agg #[.int .i64 0, .slice none 0 0], .int .i64 x]) (by simp [results, Try.results75, go_sem, q0, q1]) rfl ⟨rfl, by (repeat (first | exact Bel.refl _ | assumption | refine Bel.drew ?_ | refine Bel.drewN ?_ _ | refine Bel.alloc ?_ _ | refine Bel.setCell ?_ (by first | omega | (simp; done) | (simp; omega) | (simp at *; omega)) _ | refine Bel.trans ?_ (by assumption)))⟩
set_option maxRecDepth 100000 in
theorem rMerge_err (p : Int) (A : Option Addr) (n c : Nat) (F : List (Int × Int)) (k : Int) (w : World) (hR : Prs w A F) (hn : F.length = n) (h60 : n ≤ 900) (he : errK p F k ≠ 0) :
    Calls Try.prog 73 #[.agg #[.int .i64 p, .slice A n c], .int .i64 k] w (ShopErr w (errK p F k)) := by
  obtain ⟨x, hx⟩ : ∃ x, x = errK p F k := ⟨_, rfl⟩
  have hne : (x != 0) = true := by rw [hx]; simpa using he
  rw [← hx]
  have HX := Lib.hid hx
  have Hn := Lib.hid hn
  clear he hx hn
  go_enter Try.func73, Try.ntmps73
  go_wp2_with fail
  refine (numbered_any p A n c F k _ (hR.bel (by (repeat (first | exact Bel.refl _ | assumption | refine Bel.drew ?_ | refine Bel.drewN ?_ _ | refine Bel.alloc ?_ _ | refine Bel.setCell ?_ (by first | omega | (simp; done) | (simp; omega) | (simp at *; omega)) _ | refine Bel.trans ?_ (by assumption))))) Hn.out h60).mono ?_
  rintro e w1 ⟨rfl, hb1⟩
  rw [← HX.out]
  have hsz2 : w.heap.size + 1 < w1.heap.size := by have := hb1.size; simp at this; omega
  have r0 : w1.cell? ⟨w.heap.size + 1, 0, none⟩ = some (.int .i64 0) := by rw [hb1.use.1 _ _ (by simp)]; go_simp
  have r1 : w1.cell? ⟨w.heap.size + 1, 1, none⟩ = some (.slice none 0 0) := by rw [hb1.use.1 _ _ (by simp)]; go_simp
  have rf0 : w1.frozen? ⟨w.heap.size + 1, 0, none⟩ = false := by rw [hb1.use.2.1 _ _ (by simp)]; go_simp
  have rf1 : w1.frozen? ⟨w.heap.size + 1, 1, none⟩ = false := by rw [hb1.use.2.1 _ _ (by simp)]; go_simp
  have HR0 := Lib.hid r0; have HR1 := Lib.hid r1
  go_wp2
  obtain ⟨q0, q1⟩ := stored2 (x := .int .i64 0) (y := .slice none 0 0) HR0.out HR1.out
  exact bodyPost_ret (v := .tuple #[.agg #[.int .i64 0, .slice none 0 0], .int .i64 x]) (by simp [results, Try.results73, go_sem, q0, q1]) rfl ⟨rfl, by (repeat (first | exact Bel.refl _ | assumption | refine Bel.drew ?_ | refine Bel.drewN ?_ _ | refine Bel.alloc ?_ _ | refine Bel.setCell ?_ (by first | omega | (simp; done) | (simp; omega) | (simp at *; omega)) _ | refine Bel.trans ?_ (by assumption)))⟩
/-- Which paints a paint was before two were made one. -/
def oldL (a b x : Nat) : List Nat := if x = a then [a, b] else if b ≤ x then [x + 1] else [x]
set_option maxRecDepth 100000 in
theorem old_any (x a b : Nat) (w : World) (hx : x ≤ 1000) :
    Calls Try.prog 108 #[.agg #[.int .i64 (a : Int), .int .i64 (b : Int)], .int .i64 (x : Int)] w (News w (upN (oldL a b x))) := by
  by_cases h1 : x = a
  · have hm : oldL a b x = [a, b] := by unfold oldL; rw [if_pos h1]
    have h1' : ((x : Int) == (a : Int)) = true := by simpa using (show (x : Int) = (a : Int) by omega)
    rw [hm]
    clear hm
    go_enter Try.func108, Try.ntmps108
    go_wp2
    refine bodyPost_ret (v := .slice (some ⟨w.heap.size + 1, 0, none⟩) 2 2) (by simp [results, Try.results108, go_sem]) rfl ⟨_, _, _, rfl, rfl, by (repeat (first | exact Bel.refl _ | assumption | refine Bel.drew ?_ | refine Bel.drewN ?_ _ | refine Bel.alloc ?_ _ | refine Bel.setCell ?_ (by first | omega | (simp; done) | (simp; omega) | (simp at *; omega)) _ | refine Bel.trans ?_ (by assumption))), .inr ⟨_, 0, rfl, by simp, fun j z hj => ?_⟩⟩
    rcases j with _ | _ | j
    · simp [upN] at hj; subst hj; go_simp
    · simp [upN] at hj; subst hj; go_simp
    · simp [upN] at hj
  · have h1' : ((x : Int) == (a : Int)) = false := by simpa using (fun e : (x : Int) = (a : Int) => h1 (by omega))
    by_cases h2 : b ≤ x
    · have hm : oldL a b x = [x + 1] := by unfold oldL; rw [if_neg h1, if_pos h2]
      have h2' : (b : Int) ≤ (x : Int) := by omega
      rw [hm]
      clear hm
      go_enter Try.func108, Try.ntmps108
      go_wp2
      refine bodyPost_ret (v := .slice (some ⟨w.heap.size + 1, 0, none⟩) 1 1) (by simp [results, Try.results108, go_sem]) rfl ⟨_, _, _, rfl, rfl, by (repeat (first | exact Bel.refl _ | assumption | refine Bel.drew ?_ | refine Bel.drewN ?_ _ | refine Bel.alloc ?_ _ | refine Bel.setCell ?_ (by first | omega | (simp; done) | (simp; omega) | (simp at *; omega)) _ | refine Bel.trans ?_ (by assumption))), .inr ⟨_, 0, rfl, by simp, fun j z hj => ?_⟩⟩
      rcases j with _ | j
      · simp [upN] at hj; subst hj; go_simp
      · simp [upN] at hj
    · have hm : oldL a b x = [x] := by unfold oldL; rw [if_neg h1, if_neg h2]
      have h2' : (x : Int) < (b : Int) := by omega
      rw [hm]
      clear hm
      go_enter Try.func108, Try.ntmps108
      go_wp2
      refine bodyPost_ret (v := .slice (some ⟨w.heap.size + 1, 0, none⟩) 1 1) (by simp [results, Try.results108, go_sem]) rfl ⟨_, _, _, rfl, rfl, by (repeat (first | exact Bel.refl _ | assumption | refine Bel.drew ?_ | refine Bel.drewN ?_ _ | refine Bel.alloc ?_ _ | refine Bel.setCell ?_ (by first | omega | (simp; done) | (simp; omega) | (simp at *; omega)) _ | refine Bel.trans ?_ (by assumption))), .inr ⟨_, 0, rfl, by simp, fun j z hj => ?_⟩⟩
      rcases j with _ | j
      · simp [upN] at hj; subst hj; go_simp
      · simp [upN] at hj
end Go.Proofs.Ytcndmfkbfimllaa
