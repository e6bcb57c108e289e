/- Equal tables of fractions; what the rows of Pots add up to. -/
import Derived.Test.YtmbhhooiaonhjaaSF
import Derived.Test.YtmbhhooiaonhjaaY2
namespace Go.Proofs.Ytmbhhooiaonhjaa
open Go.RowKit

theorem Tab.held {lo : Nat} {w : World} {A : Option Addr} {T : List (List (Int × Int))} (h : Tab lo w A T) {k : Nat} {r : List (Int × Int)} (hk : T[k]? = some r) :
    ∃ b o A' n' c', A = some ⟨b, o, none⟩ ∧ b < w.heap.size ∧ w.cell? ⟨b, o + k, none⟩ = some (.slice A' n' c') ∧ Prs w A' r ∧ r.length = n' ∧ n' ≤ maxLen := by
  have hkl : k < T.length := by
    rcases Nat.lt_or_ge k T.length with h | h
    · exact h
    · rw [List.getElem?_eq_none h] at hk; cases hk
  obtain ⟨b, o, ns, A', n', c', h1, h2, h3, h4, h5, h6, h7⟩ := h.at_ hkl
  rw [hk] at h3
  injection h3 with h3
  subst h3
  exact ⟨b, o, A', n', c', h1, h2, h4, h5, h6, h7⟩

set_option maxHeartbeats 1000000 in
theorem sameRows_any (lo lo' : Nat) (A B : Option Addr) (n c c' : Nat) (T : List (List (Int × Int))) (w : World) (hA : Tab lo w A T) (hB : Tab lo' w B T) (hn : T.length = n) (hmax : n ≤ 100) :
    Calls Try.prog 19 #[.slice A n c, .slice B n c'] w fun e w' => e = .returned (.bool true) ∧ Bel w w' := by
  have Hn := Lib.hid hn; clear hn
  go_enter Try.func19, Try.ntmps19
  go_wp2
  go_loopw [5] (fun i wr => ∃ k : Nat, k ≤ n ∧ i = .int .i64 k ∧ Bel w wr) (fun i _ => n - (intOf i).toNat)
  case atStart => exact ⟨0, Nat.zero_le _, rfl, Bel.refl _⟩
  case round =>
    obtain ⟨k, hk, rfl, hb⟩ := hrel
    by_cases hlt : k < n
    · obtain ⟨r, hr⟩ : ∃ r, T[k]? = some r := ⟨_, List.getElem?_eq_getElem (by rw [Hn.out]; exact hlt)⟩
      obtain ⟨b, o, A1, n1, c1, rfl, hbl, hc1, hp1, hl1, hm1⟩ := (hA.bel hb).held hr
      obtain ⟨b', o', A2, n2, c2, rfl, hbl', hc2, hp2, hl2, -⟩ := (hB.bel hb).held hr
      have Hl1 := Lib.hid hl1; have Hl2 := Lib.hid hl2
      have hkn : (k : Int) < (n : Int) := by omega
      have hk0 : (0 : Int) ≤ (k : Int) := by omega
      obtain ⟨wo, hwo⟩ : ∃ wo : World, wo = wr := ⟨_, rfl⟩
      subst hwo
      have held : ∀ w', Bel wo w' → w'.cell? ⟨b, o + k, none⟩ = some (.slice A1 n1 c1) ∧ w'.cell? ⟨b', o' + k, none⟩ = some (.slice A2 n2 c2) := fun w' h => ⟨by rw [h.use.1 _ _ hbl]; exact hc1, by rw [h.use.1 _ _ hbl']; exact hc2⟩
      have Held := Lib.hid held
      clear hr hl1 hl2 held hc1 hc2
      go_wp2
      obtain ⟨k1, k2⟩ := Held.out wo (Bel.refl _)
      go_region_held3 (fun w' => Bel wo w' ∧ w'.cell? ⟨b, o + k, none⟩ = some (.slice A1 n1 c1) ∧ w'.cell? ⟨b', o' + k, none⟩ = some (.slice A2 n2 c2)) (exact ⟨by (repeat (first | exact Bel.refl _ | assumption | refine Bel.drew ?_ | refine Bel.drewN ?_ _ | refine Bel.alloc ?_ _ | refine Bel.setCell ?_ (by first | omega | (simp; done) | (simp; omega) | (simp at *; omega)) _ | refine Bel.trans ?_ (by assumption))), Held.out _ (by (repeat (first | exact Bel.refl _ | assumption | refine Bel.drew ?_ | refine Bel.drewN ?_ _ | refine Bel.alloc ?_ _ | refine Bel.setCell ?_ (by first | omega | (simp; done) | (simp; omega) | (simp at *; omega)) _ | refine Bel.trans ?_ (by assumption))))⟩)
        ((go_at_call 24; refine (sameRats_any A1 A2 n1 c1 n2 c2 _ _ _ (hp1.bel (by (repeat (first | exact Bel.refl _ | assumption | refine Bel.drew ?_ | refine Bel.drewN ?_ _ | refine Bel.alloc ?_ _ | refine Bel.setCell ?_ (by first | omega | (simp; done) | (simp; omega) | (simp at *; omega)) _ | refine Bel.trans ?_ (by assumption))))) (hp2.bel (by (repeat (first | exact Bel.refl _ | assumption | refine Bel.drew ?_ | refine Bel.drewN ?_ _ | refine Bel.alloc ?_ _ | refine Bel.setCell ?_ (by first | omega | (simp; done) | (simp; omega) | (simp at *; omega)) _ | refine Bel.trans ?_ (by assumption))))) Hl1.out Hl2.out hm1 (by rw [← Hl2.out, Hl1.out]; exact hm1)).mono ?_; rintro e w5 ⟨rfl, hb5⟩; rw [show same r r = true from by simp [same]]))
      go_wp2
      go_roundw
      case rel => exact ⟨k + 1, by omega, by go_num, by (repeat (first | exact Bel.refl _ | assumption | refine Bel.drew ?_ | refine Bel.drewN ?_ _ | refine Bel.alloc ?_ _ | refine Bel.setCell ?_ (by first | omega | (simp; done) | (simp; omega) | (simp at *; omega)) _ | refine Bel.trans ?_ (by assumption)))⟩
      case measure => simp [intOf]; omega
    · obtain rfl : k = n := by omega
      go_wp2
      go_ret
      exact ⟨rfl, hb⟩

/-- The sum of the first k rows of what Pots answers, at one grain. -/
def sumK (ts : List Int) (d : Int) (k : Nat) (s m : Int) : Int × Int := if k ≤ ts.length then nd (m * d ^ k - stf d (ts.take k) s m) (d ^ k) else (m, 1)
theorem add_nd {a x b y : Int} (ha : 0 ≤ a) (hx : 0 < x) (hb : 0 ≤ b) (hy : 0 < y) :
    nd ((nd a x).1 * (nd b y).2 + (nd b y).1 * (nd a x).2) ((nd a x).2 * (nd b y).2) = nd (a * y + b * x) (x * y) := by
  have c1 := num_den ha hx
  have c2 := num_den hb hy
  obtain ⟨a1, a2⟩ := num_bd ha hx
  obtain ⟨a3, a4⟩ := num_bd hb hy
  obtain ⟨b1, b2⟩ := den_bd ha hx
  obtain ⟨b3, b4⟩ := den_bd hb hy
  simp only [nd] at *
  generalize num a x = p at *
  generalize den a x = q at *
  generalize num b y = u at *
  generalize den b y = v at *
  have h1 : 0 ≤ p * v + u * q := by
    have := Int.mul_nonneg a1 (Int.le_of_lt b3)
    have := Int.mul_nonneg a3 (Int.le_of_lt b1)
    omega
  have h2 : 0 ≤ a * y + b * x := by
    have := Int.mul_nonneg ha (Int.le_of_lt hy)
    have := Int.mul_nonneg hb (Int.le_of_lt hx)
    omega
  refine nd_eq h1 (Int.mul_pos b1 b3) h2 (Int.mul_pos hx hy) ?_
  calc (p * v + u * q) * (x * y) = (p * x) * (v * y) + (u * y) * (q * x) := by rw [Int.add_mul]; ac_rfl
    _ = (a * q) * (v * y) + (b * v) * (q * x) := by rw [c1, c2]
    _ = (a * y + b * x) * (q * v) := by rw [Int.add_mul]; ac_rfl
theorem sumK_zero (ts : List Int) (d s m : Int) : sumK ts d 0 s m = (0, 1) := by
  unfold sumK
  rw [if_pos (Nat.zero_le _)]
  simp only [List.take_zero, stf, List.foldl_nil, Int.pow_zero, Int.mul_one, Int.sub_self]
  exact nd_one (Int.le_refl 0)
theorem sumK_end {ts : List Int} {d s m : Int} {k : Nat} (h : ts.length < k) : sumK ts d k s m = (m, 1) := by
  unfold sumK
  rw [if_neg (by omega)]
theorem sumK_step {ts : List Int} {d s m : Int} {k : Nat} (h3 : 1 ≤ d) (hs : 0 ≤ s) (hm : 0 ≤ m) (ht : ∀ t ∈ ts, 0 ≤ t) (hk : k ≤ ts.length) :
    nd ((sumK ts d k s m).1 * (cellK ts d k (s, m)).2 + (cellK ts d k (s, m)).1 * (sumK ts d k s m).2) ((sumK ts d k s m).2 * (cellK ts d k (s, m)).2) = sumK ts d (k + 1) s m := by
  have hlk : (ts.take k).length = k := by rw [List.length_take]; omega
  obtain ⟨f1, f2⟩ := stf_bd (d := d) (s := s) h3 hs (ts.take k) m (fun t h => ht t (List.mem_of_mem_take h)) hm
  rw [hlk] at f2
  have hD : 0 < d ^ k := Int.pow_pos (by omega)
  have e1 : sumK ts d k s m = nd (m * d ^ k - stf d (ts.take k) s m) (d ^ k) := by unfold sumK; rw [if_pos hk]
  rw [e1]
  by_cases hlt : k < ts.length
  · obtain ⟨t, hg⟩ : ∃ t, ts[k]? = some t := ⟨_, List.getElem?_eq_getElem hlt⟩
    have h0 := ht t (List.mem_of_getElem? hg)
    obtain ⟨k1, k2⟩ := skn_bd hs h0 h3
    have e2 : sumK ts d (k + 1) s m = nd (m * (d ^ k * d) - stf d (ts.take k) s m * (d - skn s t d)) (d ^ k * d) := by
      unfold sumK
      rw [if_pos (by omega), take_at hg, stf_snoc, Int.pow_succ]
    rw [cellK_some hg, e2]
    generalize stf d (ts.take k) s m = F at *
    generalize d ^ k = D at *
    generalize skn s t d = K at *
    have hFK : 0 ≤ F * K := Int.mul_nonneg f1 k1
    have hDd : 0 < D * d := Int.mul_pos hD (by omega)
    have hle : F * (d - K) ≤ m * D * d := by
      have q1 : F * (d - K) ≤ F * d := Int.mul_le_mul_of_nonneg_left (by omega) f1
      have q2 : F * d ≤ m * D * d := Int.mul_le_mul_of_nonneg_right f2 (by omega)
      omega
    rw [add_nd (by omega) hD hFK hDd]
    have hX : m * (D * d) - F * (d - K) = (m * D - F) * d + F * K := by
      rw [Int.sub_mul, Int.mul_sub, Int.mul_assoc]
      omega
    have hY : (m * D - F) * (D * d) + F * K * D = ((m * D - F) * d + F * K) * D := by
      rw [Int.add_mul]
      ac_rfl
    rw [hX, hY]
    have hpos : 0 ≤ (m * D - F) * d + F * K := by
      have := Int.mul_nonneg (show 0 ≤ m * D - F by omega) (show 0 ≤ d by omega)
      omega
    refine nd_eq (Int.mul_nonneg hpos (Int.le_of_lt hD)) (Int.mul_pos hD hDd) hpos hDd ?_
    ac_rfl
  · obtain rfl : k = ts.length := by omega
    rw [cellK_none (by simp), sumK_end (by omega)]
    generalize stf d (ts.take ts.length) s m = F at *
    generalize d ^ ts.length = D at *
    rw [add_nd (by omega) hD f1 hD, ← nd_one hm]
    have hX : (m * D - F) * D + F * D = m * D * D := by rw [← Int.add_mul, Int.sub_add_cancel]
    rw [hX]
    refine nd_eq (Int.mul_nonneg (Int.mul_nonneg hm (Int.le_of_lt hD)) (Int.le_of_lt hD)) (Int.mul_pos hD hD) hm (by omega) ?_
    rw [Int.mul_one, Int.mul_assoc]
theorem sumK_bd {ts : List Int} {d s m : Int} {k : Nat} (h3 : 1 ≤ d) (h4 : d ≤ 20) (hs : 0 ≤ s) (hm : 0 ≤ m) (hm2 : m ≤ 100) (ht : ∀ t ∈ ts, 0 ≤ t) (hl : ts.length ≤ 3) (hk : k ≤ ts.length) :
    (0 ≤ (sumK ts d k s m).1 ∧ (sumK ts d k s m).1 ≤ 800000) ∧ (1 ≤ (sumK ts d k s m).2 ∧ (sumK ts d k s m).2 ≤ 8000) := by
  obtain ⟨a, b, -, e, f, -⟩ := stf_le (d := d) (s := s) (x := m) h3 h4 hs hm hm2 ht (by omega : k ≤ 3) hk
  obtain ⟨f1, f2⟩ := stf_bd (d := d) (s := s) h3 hs (ts.take k) m (fun t h => ht t (List.mem_of_mem_take h)) hm
  rw [show (ts.take k).length = k from by rw [List.length_take]; omega] at f2
  have hX : m * d ^ k ≤ 800000 := by have := (mul_bd (A := 100) (B := 8000) hm hm2 (Int.le_of_lt e) f).2; omega
  unfold sumK
  rw [if_pos hk]
  simp only [nd]
  obtain ⟨n1, n2⟩ := num_bd (n := m * d ^ k - stf d (ts.take k) s m) (d := d ^ k) (by omega) e
  obtain ⟨n3, n4⟩ := den_bd (n := m * d ^ k - stf d (ts.take k) s m) (d := d ^ k) (by omega) e
  omega
theorem cellK_bd {ts : List Int} {d s m : Int} {k : Nat} (h3 : 1 ≤ d) (h4 : d ≤ 20) (hs : 0 ≤ s) (hm : 0 ≤ m) (hm2 : m ≤ 100) (ht : ∀ t ∈ ts, 0 ≤ t) (hl : ts.length ≤ 3) (hk : k ≤ ts.length) :
    (0 ≤ (cellK ts d k (s, m)).1 ∧ (cellK ts d k (s, m)).1 ≤ 800000) ∧ (1 ≤ (cellK ts d k (s, m)).2 ∧ (cellK ts d k (s, m)).2 ≤ 8000) := by
  obtain ⟨a, b, c, e, f, g⟩ := stf_le (d := d) (s := s) (x := m) h3 h4 hs hm hm2 ht (by omega : k ≤ 3) hk
  by_cases hlt : k < ts.length
  · obtain ⟨t, hg⟩ : ∃ t, ts[k]? = some t := ⟨_, List.getElem?_eq_getElem hlt⟩
    have h0 := ht t (List.mem_of_getElem? hg)
    obtain ⟨k1, k2⟩ := skn_bd hs h0 h3
    rw [cellK_some hg]
    have c' := c (by omega)
    have g' := g (by omega)
    obtain ⟨y1, y2⟩ := mul_bd (A := 40000) (B := 20) (a := stf d (ts.take k) s m) (b := skn s t d) a c' k1 (by omega)
    obtain ⟨y3, y4⟩ := mul_bd (A := 400) (B := 20) (Int.le_of_lt e) g' (by omega : 0 ≤ d) h4
    have y5 : 0 < d ^ k * d := Int.mul_pos e (by omega)
    obtain ⟨n1, n2⟩ := num_bd y1 y5
    obtain ⟨n3, n4⟩ := den_bd y1 y5
    simp only [nd]
    omega
  · obtain rfl : k = ts.length := by omega
    rw [cellK_none (by simp)]
    obtain ⟨n1, n2⟩ := num_bd a e
    obtain ⟨n3, n4⟩ := den_bd a e
    simp only [nd]
    omega
end Go.Proofs.Ytmbhhooiaonhjaa
