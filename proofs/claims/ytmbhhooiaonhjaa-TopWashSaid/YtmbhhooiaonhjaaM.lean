/- Plain mathematics: what the functions of the layer come to, on integers and lists. -/
import Derived.Test.YtmbhhooiaonhjaaRows
namespace Go.Proofs.Ytmbhhooiaonhjaa

def within (n lo hi : Int) : Bool := decide (lo ≤ n) && decide (n ≤ hi)
theorem within_iff {n lo hi : Int} : within n lo hi = true ↔ lo ≤ n ∧ n ≤ hi := by simp [within]
theorem within_no {n lo hi : Int} : within n lo hi = false ↔ ¬ (lo ≤ n ∧ n ≤ hi) := by
  rw [← within_iff]; simp

def gc (a b : Int) : Int := (Nat.gcd a.toNat b.toNat : Nat)
theorem gc_zero_left (b : Int) (hb : 0 ≤ b) : gc 0 b = b := by simp [gc]; omega
theorem gc_zero_right (a : Int) (ha : 0 ≤ a) : gc a 0 = a := by simp [gc]; omega
theorem gc_step (a b : Int) (ha : 0 < a) (hb : 0 ≤ b) : gc (b % a) a = gc a b := by
  have h1 : (b % a).toNat = b.toNat % a.toNat := by
    obtain ⟨x, rfl⟩ := Int.eq_ofNat_of_zero_le hb
    obtain ⟨y, rfl⟩ := Int.eq_ofNat_of_zero_le (Int.le_of_lt ha)
    rw [← Int.natCast_emod]; rfl
  unfold gc
  rw [h1, ← Nat.gcd_rec]
theorem gc_comm (a b : Int) : gc a b = gc b a := by unfold gc; rw [Nat.gcd_comm]
theorem gc_pos (a b : Int) (hb : 0 < b) : 0 < gc a b := by
  unfold gc
  have := Nat.gcd_pos_of_pos_right (n := b.toNat) a.toNat (by omega)
  omega
theorem gc_le (a b : Int) (hb : 0 < b) : gc a b ≤ b := by
  unfold gc
  have := Nat.gcd_le_right (n := b.toNat) a.toNat (by omega)
  omega

/-- The parts of a fraction in lowest terms. -/
def num (n d : Int) : Int := n / gc n d
def den (n d : Int) : Int := d / gc n d


theorem mul_bd {a b A B : Int} (h1 : 0 ≤ a) (h2 : a ≤ A) (h3 : 0 ≤ b) (h4 : b ≤ B) : 0 ≤ a * b ∧ a * b ≤ A * B :=
  ⟨Int.mul_nonneg h1 h3, Int.mul_le_mul h2 h4 h3 (by omega)⟩

/-- How many parts of a mass sink, of as many as the depth. -/
def skn (s t d : Int) : Int := min d (s * t)
theorem skn_bd {s t d : Int} (h1 : 0 ≤ s) (h2 : 0 ≤ t) (h3 : 1 ≤ d) : 0 ≤ skn s t d ∧ skn s t d ≤ d := by
  have := Int.mul_nonneg h1 h2
  unfold skn; omega
/-- Where Part has an answer. -/
def partOk (s t d : Int) : Bool := within s 1 20 && (within t 0 100 && within d 1 20)
theorem partOk_iff {s t d : Int} : partOk s t d = true ↔ (1 ≤ s ∧ s ≤ 20) ∧ (0 ≤ t ∧ t ≤ 100) ∧ 1 ≤ d ∧ d ≤ 20 := by simp [partOk, within_iff]

theorem gc_dvd_left (n d : Int) (hn : 0 ≤ n) : gc n d ∣ n := by
  obtain ⟨x, rfl⟩ := Int.eq_ofNat_of_zero_le hn
  unfold gc
  exact Int.ofNat_dvd.2 (Nat.gcd_dvd_left _ _)
theorem gc_dvd_right (n d : Int) (hd : 0 ≤ d) : gc n d ∣ d := by
  obtain ⟨x, rfl⟩ := Int.eq_ofNat_of_zero_le hd
  unfold gc
  exact Int.ofNat_dvd.2 (Nat.gcd_dvd_right _ _)
theorem num_bd {n d : Int} (hn : 0 ≤ n) (hd : 0 < d) : 0 ≤ num n d ∧ num n d ≤ n := by
  have hg := gc_pos n d hd
  exact ⟨Int.ediv_nonneg hn (by omega), Int.ediv_le_self _ hn⟩
theorem den_bd {n d : Int} (_hn : 0 ≤ n) (hd : 0 < d) : 0 < den n d ∧ den n d ≤ d := by
  have hg := gc_pos n d hd
  refine ⟨?_, Int.ediv_le_self _ (by omega)⟩
  obtain ⟨k, hk⟩ := gc_dvd_right n d (by omega)
  have e : den n d = k := by
    show d / gc n d = k
    conv => lhs; lhs; rw [hk]
    exact Int.mul_ediv_cancel_left _ (by omega)
  rw [e]
  apply Int.lt_of_not_ge
  intro h
  have : gc n d * k ≤ 0 := Int.mul_nonpos_of_nonneg_of_nonpos (by omega) h
  omega
theorem num_le_den {n d : Int} (_hn : 0 ≤ n) (hd : 0 < d) (h : n ≤ d) : num n d ≤ den n d :=
  Int.ediv_le_ediv (gc_pos n d hd) h

/-- The part of a size that sinks, as a fraction. -/
def pn (t d s : Int) : Int := num (skn s t d) d
def pd (t d s : Int) : Int := den (skn s t d) d
theorem p_bd {s t d : Int} (h1 : 0 ≤ s) (h2 : 0 ≤ t) (h3 : 1 ≤ d) : 0 ≤ pn t d s ∧ pn t d s ≤ pd t d s ∧ 0 < pd t d s ∧ pd t d s ≤ d := by
  obtain ⟨a, b⟩ := skn_bd (t := t) h1 h2 h3
  obtain ⟨c, -⟩ := num_bd (d := d) a (by omega)
  obtain ⟨e, f⟩ := den_bd (d := d) a (by omega)
  exact ⟨c, num_le_den a (by omega) b, e, f⟩
/-- What sinks of a grain's rest, and what stays. -/
def sinkP (t d : Int) (p : Int × Int × Int) : Int × Int := (num (p.2.1 * pn t d p.1) (p.2.2 * pd t d p.1), den (p.2.1 * pn t d p.1) (p.2.2 * pd t d p.1))
def stayP (t d : Int) (p : Int × Int × Int) : Int × Int × Int := (p.1, num (p.2.1 * (pd t d p.1 - pn t d p.1)) (p.2.2 * pd t d p.1), den (p.2.1 * (pd t d p.1 - pn t d p.1)) (p.2.2 * pd t d p.1))
end Go.Proofs.Ytmbhhooiaonhjaa

