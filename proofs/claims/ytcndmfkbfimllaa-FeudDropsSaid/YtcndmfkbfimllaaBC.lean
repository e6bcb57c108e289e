/- feud.Opposite and merged, walked. -/
import Derived.Test.YtcndmfkbfimllaaBB
namespace Go.Proofs.Ytcndmfkbfimllaa
open Go.RowKit Go.Maps

theorem setCell_size (w : World) (a : Addr) (v : Value) : (w.setCell a v).heap.size = w.heap.size := by simp [World.setCell]
set_option maxRecDepth 100000 in
set_option maxHeartbeats 1000000 in
theorem opposite_ok (p : Nat) (A : Option Addr) (n c : Nat) (G : List (Nat × Nat)) (w : World) (hR : Prs w A (up G)) (hn : G.length = n) (h60 : n ≤ 900) (hS : Shop p G) :
    Calls Try.prog 78 #[.agg #[.int .i64 (p : Int), .slice A n c]] w (ShopRes w (p : Int) (up (wrTo G false p p))) := by
  have HE := Lib.hid hS.err
  have Hn := Lib.hid hn
  have Hu := Lib.hid (show (up G).length = n by rw [up_length]; exact hn)
  have HSm := Lib.hid hS.small
  have p7 := hS.p7
  have Held := Lib.hid (fun w' (h : Bel (w.alloc (.cells #[.int .i64 (p : Int), .slice A n c] 24)) w') => pair_box h)
  clear hn hS
  go_enter Try.func78, Try.ntmps78
  go_wp2_with fail
  refine (validate_any p A n c (up G) _ (hR.bel (by (repeat (first | exact Bel.refl _ | assumption | refine Bel.drew ?_ | refine Bel.drewN ?_ _ | refine Bel.alloc ?_ _ | refine Bel.setCell ?_ (by first | omega | (simp; done) | (simp; omega) | (simp at *; omega)) _ | refine Bel.trans ?_ (by assumption))))) Hu.out h60).mono ?_
  rintro e w1 ⟨rfl, hb1⟩
  rw [HE.out]
  have hb01 : Bel (w.alloc (.cells #[.int .i64 (p : Int), .slice A n c] 24)) w1 := ((Bel.refl _).alloc _).trans hb1
  obtain ⟨c0, c1⟩ := Held.out _ hb01
  have hsz2 : w.heap.size + 1 < w1.heap.size := by have := hb1.size; simp at this; omega
  have hres := Lib.hid (fun w' (h : Bel w1 w') => show (w'.cell? ⟨w.heap.size + 1, 0, none⟩ = some (.int .i64 0) ∧ w'.cell? ⟨w.heap.size + 1, 1, none⟩ = some (.slice none 0 0)) ∧ ∀ o, w'.frozen? ⟨w.heap.size + 1, o, none⟩ = false from by
    have h2 := hb1.trans h
    refine ⟨⟨?_, ?_⟩, fun o => ?_⟩
    · rw [h2.use.1 _ _ (by simp)]; go_simp
    · rw [h2.use.1 _ _ (by simp)]; go_simp
    · rw [h2.use.2.1 _ _ (by simp)]; go_simp)
  have hbw1 : Bel w w1 := ((Bel.refl w).alloc _).trans hb01
  have HB := Lib.hid hbw1
  clear hb1
  go_wp2_with fail
  refine (shopOf_any p A n c G _ (hR.bel HB.out) Hn.out h60 HSm.out).mono ?_
  rintro e w2 ⟨M, rfl, hF, hb2, hM⟩
  clear c0 c1
  go_wp2_with fail
  refine (written_any p M G false _ hF p7).mono ?_
  rintro e w3 ⟨A9, n9, c9, rfl, hn9, hb3, hI3, hLT⟩
  have HN9 := Lib.hid hn9
  have HP := Lib.hid hI3
  have HLT := Lib.hid hLT
  have hb23 := hb2.trans hb3
  have hs2 := hb2.size
  have hs3 := hb3.size
  have hlt3 : w.heap.size + 1 < w3.heap.size := by omega
  obtain ⟨⟨r0, r1⟩, rf⟩ := hres.out _ hb23
  have rf0 := rf 0
  have rf1 := rf 1
  have HR0 := Lib.hid r0; have HR1 := Lib.hid r1
  clear hn9 hI3 hLT rf
  go_wp2
  obtain ⟨q0, q1⟩ := stored2 (x := .int .i64 (p : Int)) (y := .slice A9 n9 c9) HR0.out HR1.out
  refine bodyPost_ret (v := .tuple #[.agg #[.int .i64 (p : Int), .slice A9 n9 c9], .int .i64 0]) (by simp [results, Try.results78, go_sem, q0, q1]) rfl ⟨A9, n9, c9, rfl, HN9.out, ?_, ?_, ?_⟩
  · have := HB.out
    (repeat (first | exact Bel.refl _ | assumption | refine Bel.drew ?_ | refine Bel.drewN ?_ _ | refine Bel.alloc ?_ _ | refine Bel.setCell ?_ (by first | omega | (simp; done) | (simp; omega) | (simp at *; omega)) _ | refine Bel.trans ?_ (by assumption)))
  · refine (HP.out.far (fun b o e => ?_) _).far (fun b o e => ?_) _ <;> (have := (HLT.out b o e).1; simp; omega)
  · intro b o e
    have h1 := HLT.out b o e
    have h2 := HB.out.size
    exact ⟨by omega, by rw [setCell_size, setCell_size]; exact h1.2⟩
/-- A paint's number once the two of a feud are one. -/
def mgd (x a b : Nat) : Nat := if x = b then a else if b < x then x - 1 else x
set_option maxRecDepth 100000 in
theorem merged_any (x a b : Nat) (w : World) (hx : x ≤ 1000) (_ha : a ≤ 1000) (hb : b ≤ 1000) :
    Calls Try.prog 110 #[.int .i64 (x : Int), .agg #[.int .i64 (a : Int), .int .i64 (b : Int)]] w fun e w' => e = .returned (.int .i64 (mgd x a b : Int)) ∧ Bel w w' := by
  by_cases h1 : x = b
  · have hm : mgd x a b = a := by unfold mgd; rw [if_pos h1]
    have h1' : ((x : Int) == (b : Int)) = true := by simpa using (show (x : Int) = (b : Int) by omega)
    rw [hm]
    go_enter Try.func110, Try.ntmps110
    go_wp2
    go_ret
    exact ⟨rfl, by (repeat (first | exact Bel.refl _ | assumption | refine Bel.drew ?_ | refine Bel.drewN ?_ _ | refine Bel.alloc ?_ _ | refine Bel.setCell ?_ (by first | omega | (simp; done) | (simp; omega) | (simp at *; omega)) _ | refine Bel.trans ?_ (by assumption)))⟩
  · have h1' : ((x : Int) == (b : Int)) = false := by simpa using (fun e : (x : Int) = (b : Int) => h1 (by omega))
    by_cases h2 : b < x
    · have hm : mgd x a b = x - 1 := by unfold mgd; rw [if_neg h1, if_pos h2]
      have h2' : (b : Int) < (x : Int) := by omega
      have hx1 : ((x - 1 : Nat) : Int) = (x : Int) - 1 := by omega
      rw [hm, hx1]
      clear hx1 hm
      go_enter Try.func110, Try.ntmps110
      go_wp2
      go_ret
      exact ⟨by first | rfl | exact ret_int (by go_num) | exact ret_int (by omega), by (repeat (first | exact Bel.refl _ | assumption | refine Bel.drew ?_ | refine Bel.drewN ?_ _ | refine Bel.alloc ?_ _ | refine Bel.setCell ?_ (by first | omega | (simp; done) | (simp; omega) | (simp at *; omega)) _ | refine Bel.trans ?_ (by assumption)))⟩
    · have hm : mgd x a b = x := by unfold mgd; rw [if_neg h1, if_neg h2]
      have h2' : ¬ (b : Int) < (x : Int) := by omega
      rw [hm]
      go_enter Try.func110, Try.ntmps110
      go_wp2
      go_ret
      exact ⟨rfl, by (repeat (first | exact Bel.refl _ | assumption | refine Bel.drew ?_ | refine Bel.drewN ?_ _ | refine Bel.alloc ?_ _ | refine Bel.setCell ?_ (by first | omega | (simp; done) | (simp; omega) | (simp at *; omega)) _ | refine Bel.trans ?_ (by assumption)))⟩
end Go.Proofs.Ytcndmfkbfimllaa
