/- Fractions in lowest terms depend on their value alone. -/
import Derived.Test.YtmbhhooiaonhjaaJ
import Derived.Test.YtmbhhooiaonhjaaQ
namespace Go.Proofs.Ytmbhhooiaonhjaa

theorem gc_mul (a b k : Int) (ha : 0 ≤ a) (hb : 0 ≤ b) (hk : 0 ≤ k) : gc (a * k) (b * k) = gc a b * k := by
  obtain ⟨x, rfl⟩ := Int.eq_ofNat_of_zero_le ha
  obtain ⟨y, rfl⟩ := Int.eq_ofNat_of_zero_le hb
  obtain ⟨z, rfl⟩ := Int.eq_ofNat_of_zero_le hk
  unfold gc
  have h1 : ((x : Int) * (z : Int)).toNat = x * z := by rw [← Int.natCast_mul]; rfl
  have h2 : ((y : Int) * (z : Int)).toNat = y * z := by rw [← Int.natCast_mul]; rfl
  rw [h1, h2, Nat.gcd_mul_right]
  simp
theorem num_scale {a b k : Int} (ha : 0 ≤ a) (hb : 0 < b) (hk : 0 < k) : num (a * k) (b * k) = num a b := by
  unfold num
  rw [gc_mul a b k ha (by omega) (by omega)]
  exact Int.mul_ediv_mul_of_pos_left _ _ hk
theorem den_scale {a b k : Int} (ha : 0 ≤ a) (hb : 0 < b) (hk : 0 < k) : den (a * k) (b * k) = den a b := by
  unfold den
  rw [gc_mul a b k ha (by omega) (by omega)]
  exact Int.mul_ediv_mul_of_pos_left _ _ hk
/-- A fraction in lowest terms. -/
def nd (a b : Int) : Int × Int := (num a b, den a b)
theorem nd_eq {a b c d : Int} (ha : 0 ≤ a) (hb : 0 < b) (hc : 0 ≤ c) (hd : 0 < d) (h : a * d = c * b) : nd a b = nd c d := by
  unfold nd
  rw [← num_scale ha hb hd, ← den_scale ha hb hd, ← num_scale hc hd hb, ← den_scale hc hd hb, h, Int.mul_comm b d]
theorem num_den {a b : Int} (ha : 0 ≤ a) (hb : 0 < b) : num a b * b = a * den a b := by
  obtain ⟨x, hx⟩ := gc_dvd_left a b ha
  obtain ⟨y, hy⟩ := gc_dvd_right a b (by omega)
  have hg := gc_pos a b hb
  have e1 : num a b = x := by
    show a / gc a b = x
    conv => lhs; lhs; rw [hx]
    exact Int.mul_ediv_cancel_left _ (by omega)
  have e2 : den a b = y := by
    show b / gc a b = y
    conv => lhs; lhs; rw [hy]
    exact Int.mul_ediv_cancel_left _ (by omega)
  rw [e1, e2]
  conv => lhs; rw [hy]
  conv => rhs; rw [hx]
  ac_rfl
theorem nd_one {a : Int} (_ha : 0 ≤ a) : nd a 1 = (a, 1) := by
  have e : gc a 1 = 1 := by
    have h1 := gc_pos a 1 (by omega)
    have h2 := gc_le a 1 (by omega)
    omega
  simp [nd, num, den, e]
theorem p_cross {s t d : Int} (h1 : 0 ≤ s) (h2 : 0 ≤ t) (h3 : 1 ≤ d) : pn t d s * d = skn s t d * pd t d s :=
  num_den (skn_bd h1 h2 h3).1 (by omega)

/-- A pot whose rests are fractions with one denominator. -/
def potF (f : Int × Int → Int) (D : Int) (gs : List (Int × Int)) : List (Int × Int × Int) := gs.map fun g => (g.1, num (f g) D, den (f g) D)
theorem potF_pot {gs : List (Int × Int)} (h : ∀ g ∈ gs, 0 ≤ g.2) : pot gs = potF (·.2) 1 gs := by
  unfold pot potF
  refine List.map_congr_left fun g hg => ?_
  have := nd_one (h g hg)
  simp only [nd, Prod.mk.injEq] at this
  rw [this.1, this.2]
theorem stayP_nd {s N D t d : Int} (hN : 0 ≤ N) (hD : 0 < D) (h1 : 0 ≤ s) (h2 : 0 ≤ t) (h3 : 1 ≤ d) : stayP t d (s, num N D, den N D) = (s, num (N * (d - skn s t d)) (D * d), den (N * (d - skn s t d)) (D * d)) := by
  obtain ⟨k1, k2⟩ := skn_bd h1 h2 h3
  obtain ⟨u1, u2, u3, u4⟩ := p_bd h1 h2 h3
  obtain ⟨n1, n2⟩ := num_bd hN hD
  obtain ⟨n3, n4⟩ := den_bd hN hD
  have e := nd_eq (a := num N D * (pd t d s - pn t d s)) (b := den N D * pd t d s) (c := N * (d - skn s t d)) (d := D * d)
    (Int.mul_nonneg n1 (by omega)) (Int.mul_pos n3 u3) (Int.mul_nonneg hN (by omega)) (Int.mul_pos hD (by omega)) (by
      have c1 := num_den hN hD
      have c2 := p_cross h1 h2 h3
      have c3 : (pd t d s - pn t d s) * d = (d - skn s t d) * pd t d s := by rw [Int.sub_mul, Int.sub_mul, c2, Int.mul_comm d]
      calc num N D * (pd t d s - pn t d s) * (D * d) = (num N D * D) * ((pd t d s - pn t d s) * d) := by ac_rfl
        _ = (N * den N D) * ((d - skn s t d) * pd t d s) := by rw [c1, c3]
        _ = N * (d - skn s t d) * (den N D * pd t d s) := by ac_rfl)
  simp only [nd, Prod.mk.injEq] at e
  simp only [stayP, e.1, e.2]
theorem sinkP_nd {s N D t d : Int} (hN : 0 ≤ N) (hD : 0 < D) (h1 : 0 ≤ s) (h2 : 0 ≤ t) (h3 : 1 ≤ d) : sinkP t d (s, num N D, den N D) = nd (N * skn s t d) (D * d) := by
  obtain ⟨k1, k2⟩ := skn_bd h1 h2 h3
  obtain ⟨u1, u2, u3, u4⟩ := p_bd h1 h2 h3
  obtain ⟨n1, n2⟩ := num_bd hN hD
  obtain ⟨n3, n4⟩ := den_bd hN hD
  exact nd_eq (a := num N D * pn t d s) (b := den N D * pd t d s) (c := N * skn s t d) (d := D * d)
    (Int.mul_nonneg n1 u1) (Int.mul_pos n3 u3) (Int.mul_nonneg hN k1) (Int.mul_pos hD (by omega)) (by
      have c1 := num_den hN hD
      have c2 := p_cross h1 h2 h3
      calc num N D * pn t d s * (D * d) = (num N D * D) * (pn t d s * d) := by ac_rfl
        _ = (N * den N D) * (skn s t d * pd t d s) := by rw [c1, c2]
        _ = N * skn s t d * (den N D * pd t d s) := by ac_rfl)
theorem stay_potF {f : Int × Int → Int} {D t d : Int} {gs : List (Int × Int)} (hf : ∀ g ∈ gs, 0 ≤ f g ∧ 0 ≤ g.1) (hD : 0 < D) (h2 : 0 ≤ t) (h3 : 1 ≤ d) :
    (potF f D gs).map (stayP t d) = potF (fun g => f g * (d - skn g.1 t d)) (D * d) gs := by
  unfold potF
  rw [List.map_map]
  refine List.map_congr_left fun g hg => ?_
  exact stayP_nd (hf g hg).1 hD (hf g hg).2 h2 h3
theorem sink_potF {f : Int × Int → Int} {D t d : Int} {gs : List (Int × Int)} (hf : ∀ g ∈ gs, 0 ≤ f g ∧ 0 ≤ g.1) (hD : 0 < D) (h2 : 0 ≤ t) (h3 : 1 ≤ d) :
    (potF f D gs).map (sinkP t d) = gs.map fun g => nd (f g * skn g.1 t d) (D * d) := by
  unfold potF
  rw [List.map_map]
  refine List.map_congr_left fun g hg => ?_
  exact sinkP_nd (hf g hg).1 hD (hf g hg).2 h2 h3
theorem rest_potF (f : Int × Int → Int) (D : Int) (gs : List (Int × Int)) : restL (potF f D gs) = gs.map fun g => nd (f g) D := by
  unfold restL potF
  rw [List.map_map]
  rfl
theorem sunkL_eq {gs : List (Int × Int)} {t d : Int} (h : Fit gs) (h2 : 0 ≤ t) (h3 : 1 ≤ d) : sunkL gs t d = gs.map fun g => nd (g.2 * skn g.1 t d) d := by
  unfold sunkL
  rw [potF_pot (fun g hg => by have := h g hg; omega), sink_potF (fun g hg => by have := h g hg; omega) (by omega) h2 h3]
  simp
theorem stayL_eq {gs : List (Int × Int)} {t d : Int} (h : Fit gs) (h2 : 0 ≤ t) (h3 : 1 ≤ d) : stayL gs t d = gs.map fun g => nd (g.2 * (d - skn g.1 t d)) d := by
  unfold stayL
  rw [potF_pot (fun g hg => by have := h g hg; omega), stay_potF (fun g hg => by have := h g hg; omega) (by omega) h2 h3]
  have := rest_potF (fun g => g.2 * (d - skn g.1 t d)) (1 * d) gs
  unfold restL at this
  rw [this]
  simp
end Go.Proofs.Ytmbhhooiaonhjaa

