/- Pots, one after another: plain facts. -/
import Derived.Test.YtmbhhooiaonhjaaZ1
namespace Go.Proofs.Ytmbhhooiaonhjaa
open Go.RowKit

/-- The pot behind settlings of several times. -/
def aft (d : Int) (ps : List (Int × Int × Int)) (ts : List Int) : List (Int × Int × Int) := ts.foldl (fun q t => q.map (stayP t d)) ps
/-- What sinks in each of them. -/
def snk (d : Int) : List (Int × Int × Int) → List Int → List (List (Int × Int))
  | _, [] => []
  | ps, t :: ts => ps.map (sinkP t d) :: snk d (ps.map (stayP t d)) ts
theorem aft_snoc (d : Int) (ps : List (Int × Int × Int)) (ts : List Int) (t : Int) : aft d ps (ts ++ [t]) = (aft d ps ts).map (stayP t d) := by simp [aft]
theorem snk_snoc (d t : Int) : ∀ (ts : List Int) (ps : List (Int × Int × Int)), snk d ps (ts ++ [t]) = snk d ps ts ++ [(aft d ps ts).map (sinkP t d)]
  | [], _ => rfl
  | u :: ts, ps => by
    have := snk_snoc d t ts (ps.map (stayP u d))
    simp only [List.cons_append, snk, this]
    rfl
theorem aft_length (d : Int) : ∀ (ts : List Int) (ps : List (Int × Int × Int)), (aft d ps ts).length = ps.length
  | [], _ => rfl
  | u :: ts, ps => by
    have := aft_length d ts (ps.map (stayP u d))
    rw [List.length_map] at this
    exact this
theorem snk_length (d : Int) : ∀ (ts : List Int) (ps : List (Int × Int × Int)), (snk d ps ts).length = ts.length
  | [], _ => rfl
  | u :: ts, ps => by simp [snk, snk_length d ts]
theorem snk_rows (d : Int) : ∀ (ts : List Int) (ps : List (Int × Int × Int)), ∀ r ∈ snk d ps ts, r.length = ps.length
  | [], _ => fun r hr => by cases hr
  | u :: ts, ps => fun r hr => by
    rw [snk] at hr
    rcases List.mem_cons.1 hr with rfl | hr
    · simp
    · have := snk_rows d ts _ r hr
      rw [List.length_map] at this
      exact this
theorem snk_at (d : Int) : ∀ (ts : List Int) (ps : List (Int × Int × Int)) (k : Nat) (t : Int), ts[k]? = some t → (snk d ps ts)[k]? = some ((aft d ps (ts.take k)).map (sinkP t d))
  | [], _, k, t, h => by simp at h
  | u :: ts, ps, 0, t, h => by
    simp at h
    subst h
    rfl
  | u :: ts, ps, k + 1, t, h => by
    have := snk_at d ts (ps.map (stayP u d)) k t (by simpa using h)
    simp only [snk, List.getElem?_cons_succ, this]
    rfl
theorem aft_ok {gs : List (Int × Int)} (h : errV gs = 0) {d : Int} (h1 : 1 ≤ d) (h2 : d ≤ 20) (ts : List Int) (ht : ∀ t ∈ ts, 0 ≤ t) (hl : ts.length ≤ 3) : PotOk (aft d (pot gs) ts) := by
  have a0 := potB_pot h
  match ts, ht, hl with
  | [], _, _ => exact a0.ok (by omega)
  | [a], ht, _ => exact (a0.stay (ht a (by simp)) h1 h2).ok (by omega)
  | [a, b], ht, _ => exact ((a0.stay (ht a (by simp)) h1 h2).stay (ht b (by simp)) h1 h2).ok (by omega)
  | [a, b, c], ht, _ => exact (((a0.stay (ht a (by simp)) h1 h2).stay (ht b (by simp)) h1 h2).stay (ht c (by simp)) h1 h2).ok (by omega)
/-- What Pots answers, where nothing is wrong. -/
def potsL (gs : List (Int × Int)) (ts : List Int) (d : Int) : List (List (Int × Int)) := snk d (pot gs) ts ++ [restL (aft d (pot gs) ts)]
theorem potsL_length (gs : List (Int × Int)) (ts : List Int) (d : Int) : (potsL gs ts d).length = ts.length + 1 := by simp [potsL, snk_length]
theorem potsL_rows (gs : List (Int × Int)) (ts : List Int) (d : Int) : ∀ r ∈ potsL gs ts d, r.length = gs.length := by
  intro r hr
  rcases List.mem_append.1 hr with hr | hr
  · rw [snk_rows d ts _ r hr]; simp [pot]
  · simp at hr
    rw [hr]
    simp [restL, aft_length, pot]
def timesB (ts : List Int) : Bool := ts.all fun t => within t 0 100
def potsE (gs : List (Int × Int)) (ts : List Int) (d : Int) : Int := if errV gs = 0 then (if 3 < ts.length then 3 else if (timesB ts && within d 1 20) = true then 0 else 1) else errV gs
theorem potsE_zero {gs : List (Int × Int)} {ts : List Int} {d : Int} (h : potsE gs ts d = 0) : errV gs = 0 ∧ ts.length ≤ 3 ∧ (∀ t ∈ ts, 0 ≤ t ∧ t ≤ 100) ∧ 1 ≤ d ∧ d ≤ 20 := by
  unfold potsE at h
  split at h
  · rename_i he
    split at h
    · omega
    · split at h
      · rename_i h1 h2
        simp only [Bool.and_eq_true, timesB, List.all_eq_true] at h2
        exact ⟨he, by omega, fun t ht => within_iff.1 (h2.1 t ht), within_iff.1 h2.2⟩
      · omega
  · rename_i he
    exact absurd h he
/-- The rest of a grain behind settlings, over a power of the depth. -/
def stf (d : Int) (ts : List Int) (s x : Int) : Int := ts.foldl (fun f t => f * (d - skn s t d)) x
theorem stf_snoc (d : Int) (ts : List Int) (s x t : Int) : stf d (ts ++ [t]) s x = stf d ts s x * (d - skn s t d) := by simp [stf]
theorem stf_bd {d s : Int} (h3 : 1 ≤ d) (hs : 0 ≤ s) : ∀ (ts : List Int) (x : Int), (∀ t ∈ ts, 0 ≤ t) → 0 ≤ x → 0 ≤ stf d ts s x ∧ stf d ts s x ≤ x * d ^ ts.length
  | [], x, _, hx => by simp [stf]; exact hx
  | t :: ts, x, ht, hx => by
    have h0 := ht t (by simp)
    obtain ⟨k1, k2⟩ := skn_bd hs h0 h3
    have hx' : 0 ≤ x * (d - skn s t d) := Int.mul_nonneg hx (by omega)
    obtain ⟨i1, i2⟩ := stf_bd h3 hs ts (x * (d - skn s t d)) (fun u hu => ht u (List.mem_cons_of_mem _ hu)) hx'
    refine ⟨i1, Int.le_trans i2 ?_⟩
    have hp : 0 ≤ d ^ ts.length := Int.pow_nonneg (by omega)
    rw [List.length_cons, Int.pow_succ]
    calc x * (d - skn s t d) * d ^ ts.length ≤ x * d * d ^ ts.length := Int.mul_le_mul_of_nonneg_right (Int.mul_le_mul_of_nonneg_left (by omega) hx) hp
      _ = x * (d ^ ts.length * d) := by rw [Int.mul_assoc, Int.mul_comm d]
theorem aft_potF {gs : List (Int × Int)} {d : Int} (hs : ∀ g ∈ gs, 0 ≤ g.1) (h3 : 1 ≤ d) : ∀ (ts : List Int) (f : Int × Int → Int) (D : Int), (∀ t ∈ ts, 0 ≤ t) → (∀ g ∈ gs, 0 ≤ f g) → 0 < D →
    aft d (potF f D gs) ts = potF (fun g => stf d ts g.1 (f g)) (D * d ^ ts.length) gs
  | [], f, D, _, _, _ => by simp [aft, stf]
  | t :: ts, f, D, ht, hf, hD => by
    have h0 := ht t (by simp)
    show aft d ((potF f D gs).map (stayP t d)) ts = _
    rw [stay_potF (fun g hg => ⟨hf g hg, hs g hg⟩) hD h0 h3]
    rw [aft_potF hs h3 ts _ _ (fun u hu => ht u (List.mem_cons_of_mem _ hu)) (fun g hg => Int.mul_nonneg (hf g hg) (by have := skn_bd (hs g hg) h0 h3; omega)) (Int.mul_pos hD (by omega))]
    rw [List.length_cons, Int.pow_succ, show D * d * d ^ ts.length = D * (d ^ ts.length * d) from by rw [Int.mul_assoc, Int.mul_comm d]]
    rfl
theorem aft_pot {gs : List (Int × Int)} {d : Int} (h : Fit gs) (h3 : 1 ≤ d) (ts : List Int) (ht : ∀ t ∈ ts, 0 ≤ t) : aft d (pot gs) ts = potF (fun g => stf d ts g.1 g.2) (d ^ ts.length) gs := by
  rw [potF_pot (fun g hg => by have := h g hg; omega), aft_potF (fun g hg => by have := h g hg; omega) h3 ts _ _ ht (fun g hg => by have := h g hg; omega) (by omega)]
  rw [Int.one_mul]
/-- The row k of what Pots answers, as the document has it. -/
def rowK (gs : List (Int × Int)) (ts : List Int) (d : Int) (k : Nat) : List (Int × Int) :=
  match ts[k]? with
  | some t => gs.map fun g => nd (stf d (ts.take k) g.1 g.2 * skn g.1 t d) (d ^ k * d)
  | none => gs.map fun g => nd (stf d (ts.take k) g.1 g.2) (d ^ k)
theorem potsL_at {gs : List (Int × Int)} {d : Int} (h : Fit gs) (h3 : 1 ≤ d) (ts : List Int) (ht : ∀ t ∈ ts, 0 ≤ t) (k : Nat) (hk : k ≤ ts.length) : (potsL gs ts d)[k]? = some (rowK gs ts d k) := by
  unfold potsL rowK
  have htk : ∀ t ∈ ts.take k, 0 ≤ t := fun t hm => ht t (List.mem_of_mem_take hm)
  have hl : (ts.take k).length = k := by rw [List.length_take]; omega
  by_cases hlt : k < ts.length
  · obtain ⟨t, hg⟩ : ∃ t, ts[k]? = some t := ⟨_, List.getElem?_eq_getElem hlt⟩
    rw [List.getElem?_append_left (by rw [snk_length]; exact hlt), snk_at d ts _ k t hg, hg, aft_pot h h3 _ htk, hl]
    rw [sink_potF (fun g hg => ⟨(stf_bd h3 (by have := h g hg; omega) _ _ htk (by have := h g hg; omega)).1, by have := h g hg; omega⟩) (Int.pow_pos (by omega)) (ht t (List.mem_of_getElem? hg)) h3]
  · obtain rfl : k = ts.length := by omega
    rw [List.getElem?_append_right (by rw [snk_length]; omega), snk_length, Nat.sub_self]
    rw [show ts[ts.length]? = none from by simp, List.take_length, aft_pot h h3 ts ht, rest_potF]
    rfl
/-- Two pots of the same time leave what two settlings leave. -/
theorem aft_two (d t : Int) (ps : List (Int × Int × Int)) : aft d ps [t, t] = stayN t d 2 ps := rfl
/-- The order of two pots is all one for what stays above. -/
theorem aft_swap {gs : List (Int × Int)} {d a b : Int} (h : Fit gs) (h3 : 1 ≤ d) (ha : 0 ≤ a) (hb : 0 ≤ b) : restL (aft d (pot gs) [a, b]) = restL (aft d (pot gs) [b, a]) := by
  rw [aft_pot h h3 [a, b] (by simp; omega), aft_pot h h3 [b, a] (by simp; omega), rest_potF, rest_potF]
  refine List.map_congr_left fun g _ => ?_
  show nd (g.2 * (d - skn g.1 a d) * (d - skn g.1 b d)) _ = nd (g.2 * (d - skn g.1 b d) * (d - skn g.1 a d)) _
  rw [Int.mul_right_comm]
  rfl
end Go.Proofs.Ytmbhhooiaonhjaa
