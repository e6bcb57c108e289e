/- The document's Rings. -/
import Derived.Test.YtahkihifgafbnaaV
namespace Go.Proofs.Ytahkihifgafbnaa
open Go.RowKit

attribute [local go_sem] Oper.semAt_some

def sumTo (f : Nat → Int) : Nat → Int
  | 0 => 0
  | k + 1 => sumTo f k + f k
theorem sumTo_bd {f : Nat → Int} {b : Int} {n : Nat} (h : ∀ j, j < n → 0 ≤ f j ∧ f j ≤ b) : ∀ k, k ≤ n → 0 ≤ sumTo f k ∧ sumTo f k ≤ b * k
  | 0, _ => by simp [sumTo]
  | k + 1, hk => by
    have ih := sumTo_bd h k (by omega)
    have := h k (by omega)
    rw [sumTo, Int.natCast_add, Int.mul_add]
    simp
    omega
def triN (T : List (List Int)) (i k m : Nat) : Int := ent T i k * ent T k m * ent T m i
def tri3 (T : List (List Int)) (i k m : Nat) : Int := sumTo (triN T i k) m
def tri2 (T : List (List Int)) (n i k : Nat) : Int := sumTo (fun k => tri3 T i k n) k
def tri1 (T : List (List Int)) (n i : Nat) : Int := sumTo (fun i => tri2 T n i n) i
theorem tri_bd {T : List (List Int)} {n : Nat} (h : ∀ a b, a < n → b < n → ent T a b = 0 ∨ ent T a b = 1) {i k m : Nat} (hi : i < n) (hk : k < n) (hm : m < n) : 0 ≤ triN T i k m ∧ triN T i k m ≤ 1 := by
  unfold triN
  rcases h i k hi hk with e | e <;> rcases h k m hk hm with f | f <;> rcases h m i hm hi with g | g <;> rw [e, f, g] <;> decide
theorem tri_sum {T : List (List Int)} {n : Nat} (h7 : n ≤ 7) (h : ∀ a b, a < n → b < n → ent T a b = 0 ∨ ent T a b = 1) {i k m : Nat} (hi : i < n) (hk : k < n) (hm : m ≤ n) :
    0 ≤ tri1 T n i + tri2 T n i k + tri3 T i k m ∧ tri1 T n i + tri2 T n i k + tri3 T i k m ≤ 1000 := by
  have b3 : ∀ i k m, i < n → k < n → m ≤ n → 0 ≤ tri3 T i k m ∧ tri3 T i k m ≤ 7 := fun i k m hi hk hm => by
    have := sumTo_bd (f := triN T i k) (b := 1) (n := n) (fun j hj => tri_bd h hi hk hj) m hm
    unfold tri3
    omega
  have b2 : ∀ i k, i < n → k ≤ n → 0 ≤ tri2 T n i k ∧ tri2 T n i k ≤ 49 := fun i k hi hk => by
    have := sumTo_bd (f := fun k => tri3 T i k n) (b := 7) (n := n) (fun j hj => b3 i j n hi hj (Nat.le_refl _)) k hk
    unfold tri2
    omega
  have b1 := sumTo_bd (f := fun i => tri2 T n i n) (b := 49) (n := n) (fun j hj => b2 j n hj (Nat.le_refl _)) i (by omega)
  have e1 := b2 i k hi (by omega)
  have e2 := b3 i k m hi hk hm
  unfold tri1 at *
  omega
theorem tri1_bd {T : List (List Int)} {n : Nat} (h7 : n ≤ 7) (h : ∀ a b, a < n → b < n → ent T a b = 0 ∨ ent T a b = 1) : 0 ≤ tri1 T n n ∧ tri1 T n n ≤ 343 := by
  have b3 : ∀ i k, i < n → k < n → 0 ≤ tri3 T i k n ∧ tri3 T i k n ≤ 7 := fun i k hi hk => by
    have := sumTo_bd (f := triN T i k) (b := 1) (n := n) (fun j hj => tri_bd h hi hk hj) n (Nat.le_refl _)
    unfold tri3
    omega
  have b2 : ∀ i, i < n → 0 ≤ tri2 T n i n ∧ tri2 T n i n ≤ 49 := fun i hi => by
    have := sumTo_bd (f := fun k => tri3 T i k n) (b := 7) (n := n) (fun j hj => b3 i j hi hj) n (Nat.le_refl _)
    unfold tri2
    omega
  have b1 := sumTo_bd (f := fun i => tri2 T n i n) (b := 49) (n := n) (fun j hj => b2 j hj) n (Nat.le_refl _)
  unfold tri1
  omega
theorem rows01 {T : List (List Int)} {n : Nat} (hs : Square T n) (h : rowsB T n = true) {a b : Nat} (ha : a < n) (hb : b < n) : ent T a b = 0 ∨ ent T a b = 1 := by
  obtain ⟨r, e1, -, e3⟩ := hs.at_ ha hb
  exact (rowsB_01 h e1).2 _ (List.mem_of_getElem? e3)

set_option maxRecDepth 100000 in
set_option maxHeartbeats 4000000 in
theorem rrings_ok (lo : Nat) (A : Option Addr) (n c : Nat) (T : List (List Int)) (w : World) (hR : Tab lo w A T) (hn : T.length = n) (hE : errT T = 0) :
    Calls Try.prog 38 #[.slice A n c] w fun e w' => e = .returned (.tuple #[.int .i64 (tri1 T n n / 3), .int .i64 0]) ∧ Bel w w' := by
  obtain ⟨⟨h1, h7⟩, hrw, -⟩ := errT_zero hE
  rw [hn] at h1 h7 hrw
  have hsq := rowsB_square hn hrw
  have hN := hR.toN hsq h1
  have H01 : Hid (∀ a b, a < n → b < n → ent T a b = 0 ∨ ent T a b = 1) := fun a b ha hb => rows01 hsq hrw ha hb
  have HE := Lib.hid hE; have Hn := Lib.hid hn; have HSQ := Lib.hid hsq
  clear hE hn hrw hsq
  obtain ⟨b, o, hA, hbs, hc⟩ := hN
  subst hA
  have HC := Lib.hid hc
  clear hc
  go_enter Try.func38, Try.ntmps38
  go_wp2_with fail
  refine (rvalidate_any lo _ n c T _ hR Hn.out).mono ?_
  rintro e w1 ⟨rfl, hb1⟩
  rw [HE.out]
  go_wp2
  go_loopw [5, 6] (fun v i wr => ∃ p : Nat, p ≤ n ∧ i = .int .i64 p ∧ v = .int .i64 (tri1 T n p) ∧ Bel w wr) (fun _ i _ => n - (intOf i).toNat)
  case atStart => exact ⟨0, Nat.zero_le _, rfl, rfl, hb1⟩
  case round =>
    obtain ⟨p, hp, rfl, rfl, hbo⟩ := hrel
    by_cases hpn : p < n
    · have hpi : (p : Int) < (n : Int) := by omega
      obtain ⟨s1, hs1⟩ : ∃ s1, s1 = tri1 T n p := ⟨_, rfl⟩
      rw [← hs1]
      have HS1 := Lib.hid hs1
      clear hs1
      go_wp2
      go_loopw [5, 7] (fun v i wr => ∃ k : Nat, k ≤ n ∧ i = .int .i64 k ∧ v = .int .i64 (s1 + tri2 T n p k) ∧ Bel w wr) (fun _ i _ => n - (intOf i).toNat)
      case atStart => exact ⟨0, Nat.zero_le _, rfl, by simp [tri2, sumTo], hbo⟩
      case round =>
      obtain ⟨k, hk, rfl, rfl, hbm⟩ := hrel
      by_cases hkn : k < n
      · have hki : (k : Int) < (n : Int) := by omega
        obtain ⟨s2, hs2⟩ : ∃ s2, s2 = s1 + tri2 T n p k := ⟨_, rfl⟩
        rw [← hs2]
        have HS2 := Lib.hid hs2
        clear hs2
        go_wp2
        go_loopw [5, 8] (fun v i wr => ∃ m : Nat, m ≤ n ∧ i = .int .i64 m ∧ v = .int .i64 (s2 + tri3 T p k m) ∧ Bel w wr) (fun _ i _ => n - (intOf i).toNat)
        case atStart => exact ⟨0, Nat.zero_le _, rfl, by simp [tri3, sumTo], hbm⟩
        case round =>
        obtain ⟨m, hm, rfl, rfl, hb⟩ := hrel
        by_cases hmn : m < n
        · have hmi : (m : Int) < (n : Int) := by omega
          obtain ⟨r1, e1, e2, e3⟩ := HSQ.out.at_ hpn hkn
          obtain ⟨r2, f1, f2, f3⟩ := HSQ.out.at_ hkn hmn
          obtain ⟨r3, g1, g2, g3⟩ := HSQ.out.at_ hmn hpn
          obtain ⟨b1, o1, n1, c1, x1, x2, x3, x4⟩ := HC.out p r1 e1
          obtain ⟨b2, o2, n2, c2, y1, y2, y3, y4⟩ := HC.out k r2 f1
          obtain ⟨b3, o3, n3, c3, z1, z2, z3, z4⟩ := HC.out m r3 g1
          have d1 := (hb.use.1 b (o + p) hbs).trans x1
          have d2 := (hb.use.1 b1 (o1 + k) x3).trans (x4 k _ e3)
          have d3 := (hb.use.1 b (o + k) hbs).trans y1
          have d4 := (hb.use.1 b2 (o2 + m) y3).trans (y4 m _ f3)
          have d5 := (hb.use.1 b (o + m) hbs).trans z1
          have d6 := (hb.use.1 b3 (o3 + p) z3).trans (z4 p _ g3)
          have i1 : (k : Int) < (n1 : Int) := by omega
          have i2 : (m : Int) < (n2 : Int) := by omega
          have i3 : (p : Int) < (n3 : Int) := by omega
          have B0 := tri_sum h7 H01.out hpn hkn hm
          have B1 := tri_sum h7 H01.out hpn hkn (show m + 1 ≤ n from hmn)
          have q1 := H01.out p k hpn hkn
          have q2 := H01.out k m hkn hmn
          have q3 := H01.out m p hmn hpn
          have HT := Lib.hid (show tri3 T p k (m + 1) = tri3 T p k m + ent T p k * ent T k m * ent T m p from rfl)
          rw [← HS1.out, ← HS2.out] at B0 B1
          clear e1 e2 e3 f1 f2 f3 g1 g2 g3 x1 x2 x3 x4 y1 y2 y3 y4 z1 z2 z3 z4
          rw [HT.out] at B1
          generalize ent T p k = v1 at *
          generalize ent T k m = v2 at *
          generalize ent T m p = v3 at *
          generalize tri3 T p k m = s3 at *
          have W1 : IntKind.i64.wrap (v1 * v2) = v1 * v2 := IntWalk.i64_in _ (by rcases q1 with rfl | rfl <;> rcases q2 with rfl | rfl <;> decide)
          have W2 : IntKind.i64.wrap (v1 * v2 * v3) = v1 * v2 * v3 := IntWalk.i64_in _ (by rcases q1 with rfl | rfl <;> rcases q2 with rfl | rfl <;> rcases q3 with rfl | rfl <;> decide)
          have W3 : IntKind.i64.wrap (s2 + s3 + v1 * v2 * v3) = s2 + s3 + v1 * v2 * v3 := IntWalk.i64_in _ (by omega)
          clear q1 q2 q3
          go_wp2
          go_quiet (fail)
          go_wp2
          go_roundw
          case rel => exact ⟨m + 1, by omega, by go_num, by rw [HT.out, Int.add_assoc s2], by (repeat (first | exact Bel.refl _ | assumption | refine Bel.drew ?_ | refine Bel.drewN ?_ _ | refine Bel.alloc ?_ _ | refine Bel.setCell ?_ (by first | omega | (simp; done) | (simp; omega) | (simp at *; omega)) _ | refine Bel.trans ?_ (by assumption)))⟩
          case measure => simp [intOf]; omega
        · obtain rfl : n = m := by omega
          have HT := Lib.hid (show tri2 T n p (k + 1) = tri2 T n p k + tri3 T p k n from rfl)
          go_wp2
          go_roundw
          case rel => exact ⟨k + 1, by omega, by go_num, by rw [HT.out, HS2.out, Int.add_assoc], hb⟩
          case measure => simp [intOf]; omega
      · obtain rfl : n = k := by omega
        have HT := Lib.hid (show tri1 T n (p + 1) = tri1 T n p + tri2 T n p n from rfl)
        go_wp2
        go_roundw
        case rel => exact ⟨p + 1, by omega, by go_num, by rw [HT.out, HS1.out], hbm⟩
        case measure => simp [intOf]; omega
    · obtain rfl : n = p := by omega
      have hbd := tri1_bd h7 H01.out
      go_wp2
      go_ret2
      exact ⟨by rfl, hbo⟩
end Go.Proofs.Ytahkihifgafbnaa
