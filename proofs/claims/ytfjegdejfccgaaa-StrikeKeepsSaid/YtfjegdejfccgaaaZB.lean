/- divisor, lowest, cleared. -/
import Derived.Test.YtfjegdejfccgaaaZA
namespace Go.Proofs.Ytfjegdejfccgaaa
open Go.RowKit

def gcdI (a b : Int) : Int := (Int.gcd a b : Nat)
theorem gcd_step (a b : Int) : Int.gcd b (a.tmod b) = Int.gcd a b := by
  unfold Int.gcd
  rw [Int.natAbs_tmod, Nat.gcd_comm b.natAbs, ← Nat.gcd_rec, Nat.gcd_comm]
theorem tmod_bd {a b B : Int} (h1 : -B ≤ a) (h2 : a ≤ B) : -B ≤ a.tmod b ∧ a.tmod b ≤ B := by
  have h := Int.natAbs_tmod a b
  have h3 : (a.tmod b).natAbs ≤ a.natAbs := by rw [h]; exact Nat.mod_le _ _
  omega
set_option maxRecDepth 100000 in
set_option maxHeartbeats 1000000 in
theorem divisor_any (a b : Int) (w : World) (ha : -4000000000000000000 ≤ a ∧ a ≤ 4000000000000000000) (hb : -4000000000000000000 ≤ b ∧ b ≤ 4000000000000000000) :
    Calls Try.prog 128 #[.int .i64 a, .int .i64 b] w fun e w' => e = .returned (.int .i64 (gcdI a b)) ∧ Bel w w' := by
  obtain ⟨a1, a2⟩ := ha
  obtain ⟨b1, b2⟩ := hb
  have HG := Lib.hid (show gcdI a b = ((Int.gcd a b : Nat) : Int) from rfl)
  obtain ⟨G, hG⟩ : ∃ G, G = Int.gcd a b := ⟨_, rfl⟩
  rw [← hG] at HG
  have HGG := Lib.hid hG
  clear hG
  go_enter Try.func128, Try.ntmps128
  go_wp2
  go_loopw [0, 1] (fun sa sb wr => ∃ x y : Int, sa = .int .i64 x ∧ sb = .int .i64 y ∧ Int.gcd x y = G ∧ (-4000000000000000000 ≤ x ∧ x ≤ 4000000000000000000) ∧ (-4000000000000000000 ≤ y ∧ y ≤ 4000000000000000000) ∧ Bel w wr) (fun _ sb _ => (intOf sb).natAbs)
  case atStart => exact ⟨a, b, rfl, rfl, HGG.out.symm, ⟨a1, a2⟩, ⟨b1, b2⟩, Bel.refl _⟩
  case round =>
    obtain ⟨x, y, rfl, rfl, hxy, ⟨x1, x2⟩, ⟨y1, y2⟩, hbr⟩ := hrel
    have HXY := Lib.hid hxy
    clear hxy
    by_cases hy : y = 0
    · subst hy
      have HX := Lib.hid (show gcdI a b = if 0 ≤ x then x else -x by
        rw [HG.out, ← HXY.out]
        unfold Int.gcd
        rw [Int.natAbs_zero, Nat.gcd_zero_right]
        split <;> omega)
      by_cases hx : 0 ≤ x
      · have HZ := Lib.hid (show gcdI a b = x by rw [HX.out, if_pos hx])
        by_cases hx0 : x = 0
        · subst hx0
          go_wp2
          go_ret
          exact ⟨ret_int HZ.out.symm, hbr⟩
        · have hlt : -x < x := by omega
          have hlt2 : ¬ x < -x := by omega
          clear hx0
          go_wp2
          go_ret
          exact ⟨ret_int HZ.out.symm, hbr⟩
      · have HZ := Lib.hid (show gcdI a b = -x by rw [HX.out, if_neg hx])
        have hlt : x < -x := by omega
        go_wp2
        go_ret
        exact ⟨ret_int HZ.out.symm, hbr⟩
    · have hy2 : (y != 0) = true := by simpa using hy
      have HT := Lib.hid (tmod_bd (b := y) x1 x2)
      have HS := Lib.hid (gcd_step x y)
      have HM := Lib.hid (show (x.tmod y).natAbs < y.natAbs by rw [Int.natAbs_tmod]; exact Nat.mod_lt _ (by omega))
      have hk : IntKind.i64.wrap (x.tmod y) = x.tmod y := IntWalk.i64_in _ (by have := HT.out; omega)
      go_wp2
      go_quiet (fail)
      clear hk
      go_roundw
      case rel =>
        (repeat apply Exists.intro)
        exact ⟨⟨y, x.tmod y, rfl, rfl, by rw [HS.out, HXY.out], ⟨y1, y2⟩, HT.out, by (repeat (first | exact Bel.refl _ | assumption | refine Bel.drew ?_ | refine Bel.drewN ?_ _ | refine Bel.alloc ?_ _ | refine Bel.setCell ?_ (by first | omega | (simp; done) | (simp; omega) | (simp at *; omega)) _ | refine Bel.trans ?_ (by assumption)))⟩, rfl⟩
      case measure => simp only [intOf]; exact HM.out
theorem gcdI_bd {a b B : Int} (ha : -B ≤ a ∧ a ≤ B) (hb : -B ≤ b ∧ b ≤ B) : 0 ≤ gcdI a b ∧ gcdI a b ≤ B := by
  unfold gcdI Int.gcd
  refine ⟨by omega, ?_⟩
  by_cases h : a.natAbs = 0
  · rw [h, Nat.gcd_zero_left]; omega
  · have := Nat.gcd_le_left b.natAbs (Nat.pos_of_ne_zero h); omega
/-- The common divisor of the first numbers of a line. -/
def cmTo (f : Nat → Int) : Nat → Int
  | 0 => 0
  | k + 1 => gcdI (cmTo f k) (f k)
theorem cmTo_bd {f : Nat → Int} {B : Int} (hB : 0 ≤ B) (hf : ∀ i, i < 6 → -B ≤ f i ∧ f i ≤ B) : ∀ k, k ≤ 6 → 0 ≤ cmTo f k ∧ cmTo f k ≤ B
  | 0, _ => ⟨Int.le_refl _, hB⟩
  | k + 1, h => by
    have ih := cmTo_bd hB hf k (by omega)
    exact gcdI_bd ⟨by omega, ih.2⟩ (hf k (by omega))
/-- A line in lowest terms. -/
def loF (f : Nat → Int) (i : Nat) : Int := if cmTo f 6 = 0 then f i else (f i).tdiv (cmTo f 6)
theorem tdiv_bd {a b B : Int} (h : -B ≤ a ∧ a ≤ B) : -B ≤ a.tdiv b ∧ a.tdiv b ≤ B := by
  have h1 : (a.tdiv b).natAbs ≤ a.natAbs := by rw [Int.natAbs_tdiv]; exact Nat.div_le_self _ _
  omega
theorem index6 (f : Nat → Int) (k : Nat) (hk : k < 6) (W : World) : (Instr.index 79 (V6 f) (.int .i64 (k : Int))).run Try.prog W = .ok (.int .i64 (f k)) W := by
  rcases (by omega : k = 0 ∨ k = 1 ∨ k = 2 ∨ k = 3 ∨ k = 4 ∨ k = 5) with rfl | rfl | rfl | rfl | rfl | rfl <;> kernel_rfl
set_option maxRecDepth 100000 in
set_option maxHeartbeats 2000000 in
theorem lowest_any (f : Nat → Int) (w : World) (hf : ∀ i, i < 6 → -4000000000000000000 ≤ f i ∧ f i ≤ 4000000000000000000) : Calls Try.prog 129 #[V6 f] w fun e w' => e = .returned (V6 (loF f)) ∧ Bel w w' := by
  have HF := Lib.hid hf
  have HCB := Lib.hid (cmTo_bd (B := 4000000000000000000) (by omega) hf)
  have hr1 := (row6 w f 79).alloc (.cells #[.int .i64 0, .int .i64 0, .int .i64 0, .int .i64 0, .int .i64 0, .int .i64 0] 79)
  have hr2 := Row.zero (w.alloc (.cells #[.int .i64 (f 0), .int .i64 (f 1), .int .i64 (f 2), .int .i64 (f 3), .int .i64 (f 4), .int .i64 (f 5)] 79)) 79
  rw [World.size_alloc] at hr2
  clear hf
  go_enter Try.func129, Try.ntmps129
  go_wp2
  go_loopw [3, 8] (fun s i wr => ∃ k : Nat, k ≤ 6 ∧ i = .int .i64 k ∧ s = .int .i64 (cmTo f k) ∧ Bel w wr ∧ Row wr w.heap.size 6 6 f ∧ Row wr (w.heap.size + 1) 6 6 (fun _ => 0)) (fun _ i _ => 6 - (intOf i).toNat)
  case atStart => exact ⟨0, by omega, rfl, rfl, by (repeat (first | exact Bel.refl _ | assumption | refine Bel.drew ?_ | refine Bel.drewN ?_ _ | refine Bel.alloc ?_ _ | refine Bel.setCell ?_ (by first | omega | (simp; done) | (simp; omega) | (simp at *; omega)) _ | refine Bel.trans ?_ (by assumption))), hr1, hr2⟩
  case round =>
    clear hr1 hr2
    obtain ⟨k, hk, rfl, rfl, hb, h1, h2⟩ := hrel
    obtain ⟨g0, g9⟩ := HCB.out k hk
    by_cases hlt : k < 6
    · have hki : (k : Int) < 6 := by omega
      obtain ⟨f0, f9⟩ := HF.out k hlt
      have hix := index6 f k hlt
      have HC := Lib.hid (show cmTo f (k + 1) = gcdI (cmTo f k) (f k) from rfl)
      go_wp2_with fail
      refine (divisor_any (cmTo f k) (f k) _ (by omega) (by omega)).mono ?_
      rintro e w1 ⟨rfl, hb1⟩
      clear hix
      go_wp2
      go_roundw
      case rel => exact ⟨k + 1, by omega, by go_num, by rw [HC.out], hb.trans hb1, h1.bel hb1, h2.bel hb1⟩
      case measure => simp [intOf]; omega
    · obtain rfl : k = 6 := by omega
      obtain ⟨c0, c1, c2, c3, c4, c5⟩ := h1.six
      obtain ⟨d0, d1, d2, d3, d4, d5⟩ := h2.six
      have hz0 := h2.fz 0; have hz1 := h2.fz 1; have hz2 := h2.fz 2; have hz3 := h2.fz 3; have hz4 := h2.fz 4; have hz5 := h2.fz 5
      have hl2 := h2.lt
      obtain ⟨G, hG⟩ : ∃ G, G = cmTo f 6 := ⟨_, rfl⟩
      rw [← hG] at g0 g9 ⊢
      by_cases hz : G = 0
      · have HE := Lib.hid (show (fun i => loF f i) = f by funext i; unfold loF; rw [← hG, if_pos hz])
        have hzb : (G == 0) = true := by simpa using hz
        have HQ := Lib.hid (fill6 f h2)
        have HB := Lib.hid (bel6 f hb (g := w.heap.size + 1) (by omega))
        clear h1 h2 hG hz
        go_wp2
        obtain ⟨e0, e1, e2, e3, e4, e5⟩ := HQ.out.six
        exact bodyPost_ret (v := V6 f) (by simp [results, Try.results129, go_sem, e0, e1, e2, e3, e4, e5]) rfl ⟨by rw [show loF f = f from HE.out], HB.out⟩
      · have hzb : (G == 0) = false := by simpa using hz
        have hzn : ¬ G = 0 := hz
        have HE := Lib.hid (show (fun i => loF f i) = fun i => (f i).tdiv G by funext i; unfold loF; rw [← hG, if_neg hz])
        have HG := Lib.hid hG
        clear hG hz c0 c1 c2 c3 c4 c5 d0 d1 d2 d3 d4 d5 hz0 hz1 hz2 hz3 hz4 hz5 hl2
        go_wp2
        go_loopw [18] (fun i wr => ∃ k : Nat, k ≤ 6 ∧ i = .int .i64 k ∧ Bel w wr ∧ Row wr w.heap.size 6 6 (fun j => if j < k then (f j).tdiv G else f j) ∧ Row wr (w.heap.size + 1) 6 6 (fun _ => 0)) (fun i _ => 6 - (intOf i).toNat)
        case atStart => exact ⟨0, by omega, rfl, hb, h1.congr (fun i _ => by rw [if_neg (by omega)]), h2⟩
        case round =>
          clear h1 h2 hb
          obtain ⟨k, hk, rfl, hb, h1, h2⟩ := hrel
          by_cases hlt : k < 6
          · have hki : (k : Int) < 6 := by omega
            obtain ⟨f0, f9⟩ := HF.out k hlt
            have hc := h1.cells k hlt
            rw [if_neg (Nat.lt_irrefl k)] at hc
            have hfz := h1.fz k
            have hl := h1.lt
            have hq := tdiv_bd (b := G) ⟨f0, f9⟩
            obtain ⟨q0, q9⟩ := hq
            have HR1 := Lib.hid ((h1.put hlt ((f k).tdiv G)).congr (f' := fun j => if j < k + 1 then (f j).tdiv G else f j) (fun j _ => by
              by_cases e : j = k
              · subst e; rw [if_pos (by omega), if_pos rfl]
              · rw [if_neg e]
                by_cases e2 : j < k
                · rw [if_pos (by omega), if_pos e2]
                · rw [if_neg (by omega), if_neg e2]))
            have HR2 := Lib.hid (h2.far (p := ⟨w.heap.size, k, none⟩) (by simp) (.int .i64 ((f k).tdiv G)))
            have hb2 := Lib.hid (show Bel w (wr.setCell ⟨w.heap.size, k, none⟩ (.int .i64 ((f k).tdiv G))) by (repeat (first | exact Bel.refl _ | assumption | refine Bel.drew ?_ | refine Bel.drewN ?_ _ | refine Bel.alloc ?_ _ | refine Bel.setCell ?_ (by first | omega | (simp; done) | (simp; omega) | (simp at *; omega)) _ | refine Bel.trans ?_ (by assumption))))
            clear h1 h2
            go_wp2
            go_roundw
            case rel => exact ⟨k + 1, by omega, by go_num, hb2.out, HR1.out, HR2.out⟩
            case measure => simp [intOf]; omega
          · obtain rfl : k = 6 := by omega
            have h1' : Row wr w.heap.size 6 6 (fun j => (f j).tdiv G) := h1.congr (fun j hj => by rw [if_pos hj])
            obtain ⟨c0, c1, c2, c3, c4, c5⟩ := h1'.six
            obtain ⟨d0, d1, d2, d3, d4, d5⟩ := h2.six
            have hz0 := h2.fz 0; have hz1 := h2.fz 1; have hz2 := h2.fz 2; have hz3 := h2.fz 3; have hz4 := h2.fz 4; have hz5 := h2.fz 5
            have hl2 := h2.lt
            have HQ := Lib.hid (fill6 (fun j => (f j).tdiv G) h2)
            have HB := Lib.hid (bel6 (fun j => (f j).tdiv G) hb (g := w.heap.size + 1) (by omega))
            clear h1 h1' h2
            go_wp2
            obtain ⟨e0, e1, e2, e3, e4, e5⟩ := HQ.out.six
            exact bodyPost_ret (v := V6 fun j => (f j).tdiv G) (by simp [results, Try.results129, go_sem, e0, e1, e2, e3, e4, e5]) rfl ⟨by rw [show loF f = fun i => (f i).tdiv G from HE.out], HB.out⟩
end Go.Proofs.Ytfjegdejfccgaaa
