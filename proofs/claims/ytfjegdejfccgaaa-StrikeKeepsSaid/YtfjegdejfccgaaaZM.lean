/- directions with no others. -/
import Derived.Test.YtfjegdejfccgaaaZL
namespace Go.Proofs.Ytfjegdejfccgaaa
open Go.RowKit

/-- A line and its opposite. -/
def twoF (l : Nat → Int) : Nat → Nat → Int := fun j i => if j = 0 then l i else -(l i)
def TwoL (w : World) (l : Nat → Int) (e : Ending) (w' : World) : Prop := ∃ g cap, e = .returned (.slice (some ⟨g, 0, none⟩) 2 cap) ∧ Bel w w' ∧ Mat w' g 2 (twoF l)
theorem new12 (w : World) (l : Nat → Int) (ty : TypeId) (g : Nat) (hg : g = w.heap.size) : ∀ j u, (celL (twoF l) 2)[j]? = some u → (w.alloc (.cells #[.int .i64 (l 0), .int .i64 (l 1), .int .i64 (l 2), .int .i64 (l 3), .int .i64 (l 4), .int .i64 (l 5), .int .i64 (-l 0), .int .i64 (-l 1), .int .i64 (-l 2), .int .i64 (-l 3), .int .i64 (-l 4), .int .i64 (-l 5)] ty)).cell? ((⟨g, 0, none⟩ : Addr).add j) = some u := by
  subst hg
  intro j u hj
  obtain ⟨hl, rfl⟩ := celL_at hj
  rw [Go.Addr.add_mid, Nat.zero_add, World.cell?_alloc_new]
  rcases (by omega : j = 0 ∨ j = 1 ∨ j = 2 ∨ j = 3 ∨ j = 4 ∨ j = 5 ∨ j = 6 ∨ j = 7 ∨ j = 8 ∨ j = 9 ∨ j = 10 ∨ j = 11) with rfl | rfl | rfl | rfl | rfl | rfl | rfl | rfl | rfl | rfl | rfl | rfl <;> rfl
set_option maxRecDepth 100000 in
set_option maxHeartbeats 4000000 in
theorem directions_nil (g0 m c0 wd f : Nat) (F : Nat → Nat → Int) (w : World) (hM : Mat w g0 m F) (h1 : 1 ≤ m) (hm : m ≤ 20) (hfit : Fits F m) (hwd : wd = (redTo F m 6).2.length + 1) (hok : SoleOK (redTo F m 6).1 (redTo F m 6).2 f)
    (l : Nat → Int) (hl : l = loF (soTo (redTo F m 6).1 (redTo F m 6).2 f (redTo F m 6).2.length)) (hlb : ∀ i, i < 6 → -1000000000000 ≤ l i ∧ l i ≤ 1000000000000) :
    Calls Try.prog 87 #[.slice (some ⟨g0, 0, none⟩) m c0, .slice none 0 0, .int .i64 (wd : Int)] w (TwoL w l) := by
  obtain ⟨i0, hi, hz0, hz1, hz2⟩ := info_parts info6L
  have HFT := Lib.hid hfit; have HWD := Lib.hid hwd; have HOK := Lib.hid hok; have HL := Lib.hid hl; have HLB := Lib.hid hlb
  clear hfit hwd hok hl hlb
  go_enter Try.func87, Try.ntmps87
  go_wp2
  go_loopw [7, 17] (fun v i wr => (v = .slice none 0 0 ∧ i = .int .i64 0 ∧ Bel w wr) ∨ (∃ g cap, v = .slice (some ⟨g, 0, none⟩) 2 cap ∧ i = .int .i64 1 ∧ Bel w wr ∧ Mat wr g 2 (twoF l))) (fun _ i _ => 1 - (intOf i).toNat)
  case atStart => exact .inl ⟨rfl, rfl, Bel.refl _⟩
  case round =>
    rcases hrel with ⟨rfl, rfl, hb⟩ | ⟨g, cap, rfl, rfl, hb, hMr⟩
    · go_wp2_with fail
      refine (cloneL_any g0 m c0 F _ (hM.bel hb) h1 hm).mono ?_
      rintro e w1 ⟨g, cap, rfl, hb1, hmc, hcm, hO⟩
      have hM1 := mat_own hO rfl
      clear hO
      go_wp2
      go_loopw [9, 24] (fun v i wr => v = .slice (some ⟨g, 0, none⟩) m cap ∧ i = .int .i64 0 ∧ wr = w1) (fun _ _ _ => 0)
      case atStart => exact ⟨rfl, rfl, rfl⟩
      case round =>
        obtain ⟨rfl, rfl, rfl⟩ := hrel
        go_wp2_with fail
        refine (sole_ok g m cap wd f F _ hM1 h1 hm HFT.out HWD.out HOK.out).mono ?_
        rintro e w3 ⟨rfl, hb3⟩
        rw [← HL.out]
        have hrow := row6 w3 l 79
        have hbx : Bel w3 (w3.alloc (.cells #[.int .i64 (l 0), .int .i64 (l 1), .int .i64 (l 2), .int .i64 (l 3), .int .i64 (l 4), .int .i64 (l 5)] 79)) := by (repeat (first | exact Bel.refl _ | assumption | refine Bel.drew ?_ | refine Bel.drewN ?_ _ | refine Bel.alloc ?_ _ | refine Bel.setCell ?_ (by first | omega | (simp; done) | (simp; omega) | (simp at *; omega)) _ | refine Bel.trans ?_ (by assumption)))
        obtain ⟨W, hW⟩ : ∃ W, W = w3.alloc (.cells #[.int .i64 (l 0), .int .i64 (l 1), .int .i64 (l 2), .int .i64 (l 3), .int .i64 (l 4), .int .i64 (l 5)] 79) := ⟨_, rfl⟩
        rw [← hW] at hrow hbx
        have HW := Lib.hid hW
        have HROW := Lib.hid (fun w' (h : Bel W w') => (hrow.bel h).six)
        have hbwW : Bel w W := hb.trans ((hb1.trans hb3).trans hbx)
        have hX1 := Lib.hid (show 0 + 2 ≤ maxLen by unfold maxLen; omega)
        have hX2 := Lib.hid (show (0 + 2) * 48 ≤ 140737488355328 by omega)
        clear hrow hW hbx
        go_wp2
        rw [← HW.out]
        obtain ⟨c0', c1', c2', c3', c4', c5'⟩ := HROW.out W (Bel.refl _)
        go_region_held_law (fun w' => w'.cell? ⟨w3.heap.size, 0, none⟩ = some (.int .i64 (l 0)) ∧ w'.cell? ⟨w3.heap.size, 1, none⟩ = some (.int .i64 (l 1)) ∧ w'.cell? ⟨w3.heap.size, 2, none⟩ = some (.int .i64 (l 2)) ∧ w'.cell? ⟨w3.heap.size, 3, none⟩ = some (.int .i64 (l 3)) ∧ w'.cell? ⟨w3.heap.size, 4, none⟩ = some (.int .i64 (l 4)) ∧ w'.cell? ⟨w3.heap.size, 5, none⟩ = some (.int .i64 (l 5))) (first | (have hB9 := grown_own (w := W) (by (repeat (first | exact Bel.refl _ | assumption | refine Bel.drew ?_ | refine Bel.drewN ?_ _ | refine Bel.alloc ?_ _ | refine Bel.setCell ?_ (by first | omega | (simp; done) | (simp; omega) | (simp at *; omega)) _ | refine Bel.trans ?_ (by assumption)))) (World.ownsRow_nil W W.heap.size 79 6) (Nat.le_refl _) hgr5; exact HROW.out _ hB9) | exact HROW.out _ (by (repeat (first | exact Bel.refl _ | assumption | refine Bel.drew ?_ | refine Bel.drewN ?_ _ | refine Bel.alloc ?_ _ | refine Bel.setCell ?_ (by first | omega | (simp; done) | (simp; omega) | (simp at *; omega)) _ | refine Bel.trans ?_ (by assumption)))))
          (first | (go_at_call 119; refine (opposite_any l _ HLB.out).mono ?_; rintro e w4 ⟨rfl, hb4⟩; have hbW4 : Bel W w4 := (by (repeat (first | exact Bel.refl _ | assumption | refine Bel.drew ?_ | refine Bel.drewN ?_ _ | refine Bel.alloc ?_ _ | refine Bel.setCell ?_ (by first | omega | (simp; done) | (simp; omega) | (simp at *; omega)) _ | refine Bel.trans ?_ (by assumption)))); have hs4 := hbW4.size) | (refine step_append_lies _ rfl (.tmp 46) (.tmp 50) 68 rfl W.heap.size 79 i0 _ 6 48 Try.underlying68 hi hz0 hz1 hz2 rfl (by decide) (.slice none 0 0) 0 [] (by rfl) (World.ownsRow_nil _ _ _ _) ⟨w4.heap.size, 0, none⟩ 2 2 (celL (twoF l) 2) (by rfl) (celL_len _ _) (new12 _ _ _ _ (by simp)) (celL_one _ _) (by omega) hX1.out hX2.out (by simp <;> omega) _ rfl ?_; intro g5 cap5 w5 hown5 hgr5 hat5 hlt5))
        have hB5 := Lib.hid (hbwW.trans (grown_own (w := W) ((hbW4.alloc _)) (World.ownsRow_nil W W.heap.size 79 6) (Nat.le_refl _) hgr5))
        simp only [Nat.zero_add, List.nil_append] at hown5
        have HM5 := Lib.hid (mat_own hown5 rfl)
        clear hown5 hgr5 hat5 hlt5 c0' c1' c2' c3' c4' c5'
        go_wp2
        go_roundw
        case rel => exact .inr ⟨g5, cap5, rfl, rfl, hB5.out, HM5.out⟩
        case measure => simp [intOf]
    · go_wp2
      go_ret
      exact ⟨g, cap, rfl, hb, hMr⟩
end Go.Proofs.Ytfjegdejfccgaaa
