/- Plain: kings. -/
import Derived.Test.YtahkihifgafbnaaXA
import Derived.Test.YtahkihifgafbnaaN
namespace Go.Proofs.Ytahkihifgafbnaa
open Go.RowKit

theorem exists_max (p : Nat → Bool) (g : Nat → Int) : ∀ n, (∃ x, x < n ∧ p x = true) → ∃ u, u < n ∧ p u = true ∧ ∀ x, x < n → p x = true → g x ≤ g u
  | 0, ⟨x, h, _⟩ => by omega
  | n + 1, h => by
    by_cases h1 : ∃ x, x < n ∧ p x = true
    · obtain ⟨u, hu, hp, hm⟩ := exists_max p g n h1
      by_cases h2 : p n = true ∧ g u < g n
      · refine ⟨n, by omega, h2.1, fun x hx hpx => ?_⟩
        by_cases e : x = n
        · rw [e]
          exact Int.le_refl _
        · have := hm x (by omega) hpx
          omega
      · refine ⟨u, by omega, hp, fun x hx hpx => ?_⟩
        by_cases e : x = n
        · subst e
          by_cases h3 : g u < g x
          · exact absurd ⟨hpx, h3⟩ h2
          · omega
        · exact hm x (by omega) hpx
    · obtain ⟨x, hx, hpx⟩ := h
      have e : x = n := by
        by_cases e : x = n
        · exact e
        · exact absurd ⟨x, by omega, hpx⟩ h1
      subst e
      exact ⟨x, by omega, hpx, fun y hy hpy => by
        by_cases e : y = x
        · rw [e]
          exact Int.le_refl _
        · exact absurd ⟨y, by omega, hpy⟩ h1⟩
/-- Is a strip a king? -/
def KingP (f : Nat → Nat → Int) (n i : Nat) : Prop := ∀ k, k < n → k ≠ i → f i k = 1 ∨ ∃ m, m < n ∧ f i m = 1 ∧ f m k = 1
theorem sumTo_le {f g : Nat → Int} : ∀ n, (∀ i, i < n → f i ≤ g i) → sumTo f n ≤ sumTo g n
  | 0, _ => Int.le_refl _
  | n + 1, h => by
    have := sumTo_le n (fun i hi => h i (by omega))
    have := h n (by omega)
    rw [sumTo, sumTo]
    omega
theorem sumTo_lt {f g : Nat → Int} {j : Nat} : ∀ n, j < n → (∀ i, i < n → f i ≤ g i) → f j < g j → sumTo f n < sumTo g n
  | 0, hj, _, _ => by omega
  | n + 1, hj, h, hl => by
    rw [sumTo, sumTo]
    by_cases e : j = n
    · subst e
      have := sumTo_le j (fun i hi => h i (by omega))
      omega
    · have := sumTo_lt n (by omega) (fun i hi => h i (by omega)) hl
      have := h n (by omega)
      omega
/-- One that wins most among those of which p holds reaches them all. -/
theorem Beats.most {n : Nat} {f : Nat → Nat → Int} (h : Beats n f) (p : Nat → Bool) {u : Nat} (hu : u < n) (hp : p u = true) (hm : ∀ x, x < n → p x = true → sumTo (fun m => if p m = true then f x m else 0) n ≤ sumTo (fun m => if p m = true then f u m else 0) n)
    {k : Nat} (hk : k < n) (hpk : p k = true) (hne : k ≠ u) : f u k = 1 ∨ ∃ m, m < n ∧ f u m = 1 ∧ f m k = 1 := by
  rcases h.one u k hu hk with e | e
  · have hku : f k u = 1 := by have := h.pair k u hk hu hne; omega
    by_cases hex : ∃ m, m < n ∧ f u m = 1 ∧ f m k = 1
    · exact .inr hex
    · have hle : ∀ m, m < n → (if p m = true then f u m else 0) ≤ (if p m = true then f k m else 0) := by
        intro m hmn
        by_cases hpm : p m = true
        · rw [if_pos hpm, if_pos hpm]
          rcases h.one u m hu hmn with e2 | e2
          · have := h.one k m hk hmn
            omega
          · have hmk : f m k ≠ 1 := fun e3 => hex ⟨m, hmn, e2, e3⟩
            have hne2 : m ≠ k := fun e3 => by rw [e3, e] at e2; cases e2
            have := h.pair m k hmn hk hne2
            have := h.one m k hmn hk
            omega
        · rw [if_neg hpm, if_neg hpm]
          exact Int.le_refl _
      have hlt := sumTo_lt (f := fun m => if p m = true then f u m else 0) (g := fun m => if p m = true then f k m else 0) (j := u) n hu hle (by
        show (if p u = true then f u u else 0) < (if p u = true then f k u else 0)
        rw [if_pos hp, if_pos hp, h.self u hu, hku]
        decide)
      have := hm k hk hpk
      omega
  · exact .inl e
theorem Beats.mostKing {n : Nat} {f : Nat → Nat → Int} (h : Beats n f) {u : Nat} (hu : u < n) (hm : ∀ x, x < n → winS f n x ≤ winS f n u) : KingP f n u := fun k hk hne =>
  h.most (fun _ => true) hu rfl (fun x hx _ => by simpa [winS] using hm x hx) hk rfl hne
/-- Who is beaten is beaten by a king. -/
theorem Beats.over {n : Nat} {f : Nat → Nat → Int} (h : Beats n f) {v : Nat} (hv : v < n) (hb : ∃ x, x < n ∧ f x v = 1) : ∃ u, u < n ∧ f u v = 1 ∧ KingP f n u := by
  obtain ⟨u, hu, hp, hm⟩ := exists_max (fun x => decide (f x v = 1)) (fun x => sumTo (fun m => if decide (f m v = 1) = true then f x m else 0) n) n (by
    obtain ⟨x, hx, e⟩ := hb
    exact ⟨x, hx, by simpa using e⟩)
  have huv : f u v = 1 := by simpa using hp
  refine ⟨u, hu, huv, fun k hk hne => ?_⟩
  by_cases hkv : k = v
  · exact .inl (by rw [hkv]; exact huv)
  · rcases h.one k v hk hv with e | e
    · have hvk : f v k = 1 := by have := h.pair k v hk hv hkv; omega
      exact .inr ⟨v, hv, huv, hvk⟩
    · exact h.most (fun x => decide (f x v = 1)) hu hp hm hk (by simpa using e) hne
/-- Who beats all is the only king. -/
theorem king_all {n : Nat} {f : Nat → Nat → Int} {v : Nat} (hv : v < n) (hb : ∀ x, x < n → f x v = 0) {u : Nat} (hu : u < n) (hk : KingP f n u) : u = v := by
  by_cases e : u = v
  · exact e
  · rcases hk v hv (fun e2 => e e2.symm) with h1 | ⟨m, hm, _, h2⟩
    · rw [hb u hu] at h1
      cases h1
    · rw [hb m hm] at h2
      cases h2
theorem Beats.winAll {n : Nat} {f : Nat → Nat → Int} (h : Beats n f) {v : Nat} (hv : v < n) : winS f n v = n - 1 ↔ ∀ x, x < n → f x v = 0 := by
  have hl := h.lost hv
  constructor
  · intro e x hx
    have hz : sumTo (fun i => f i v) n = 0 := by omega
    rcases h.one x v hx hv with e1 | e1
    · exact e1
    · have := sumTo_lt (f := fun _ => 0) (g := fun i => f i v) (j := x) n hx (fun i hi => by rcases h.one i v hi hv with e2 | e2 <;> rw [e2] <;> decide) (by show (0 : Int) < f x v; rw [e1]; decide)
      rw [sumTo_zero] at this
      omega
  · intro e
    rw [sumTo_congr n (g := fun _ => 0) e, sumTo_zero] at hl
    omega
theorem mem_restO {m s : Nat} (x : Fin m) : x ∈ restO m [(s : Int)] ↔ x.val ≠ s := by
  unfold restO iterTo outP
  rw [List.take_of_length_le (by simp), List.mem_filter]
  simp only [List.mem_finRange, true_and, Bool.not_eq_true']
  unfold hasB
  simp
  omega
theorem mem_outL {T : List (List Int)} {m a : Nat} (x : Fin m) : x ∈ outL T m a ↔ ent T a x.val = 1 := by
  unfold outL
  rw [outTo_all, List.mem_filter]
  simp
theorem kingB_iff {T : List (List Int)} {n s : Nat} : kingB T n s = true ↔ KingP (ent T) n s := by
  unfold kingB KingP overB
  rw [List.all_eq_true]
  constructor
  · intro h k hk hne
    have := h ⟨k, hk⟩ ((mem_restO _).2 hne)
    rw [Bool.or_eq_true, decide_eq_true_iff, List.any_eq_true] at this
    rcases this with e | ⟨x, hx, e⟩
    · exact .inl e
    · exact .inr ⟨x.val, x.isLt, (mem_outL x).1 hx, of_decide_eq_true e⟩
  · intro h x hx
    rw [Bool.or_eq_true, decide_eq_true_iff, List.any_eq_true]
    rcases h x.val x.isLt ((mem_restO x).1 hx) with e | ⟨m, hm, e1, e2⟩
    · exact .inl e
    · exact .inr ⟨⟨m, hm⟩, (mem_outL _).2 e1, decide_eq_true e2⟩
/-- Does strip i reach k, by one of the first m? -/
def overD (T : List (List Int)) (i k m : Nat) : Bool := (decide (i = k) || decide (ent T i k = 1)) || (List.range m).any fun x => decide (ent T i x * ent T x k = 1)
/-- Does strip i reach the first k? -/
def kingD (T : List (List Int)) (n i k : Nat) : Bool := (List.range k).all fun k => overD T i k n
theorem overD_next (T : List (List Int)) (i k m : Nat) : overD T i k (m + 1) = (overD T i k m || decide (ent T i m * ent T m k = 1)) := by
  unfold overD
  rw [List.range_succ, List.any_append]
  simp only [List.any_cons, List.any_nil, Bool.or_false, Bool.or_assoc]
theorem kingD_next (T : List (List Int)) (n i k : Nat) : kingD T n i (k + 1) = (kingD T n i k && overD T i k n) := by
  unfold kingD
  rw [List.range_succ, List.all_append]
  simp
theorem prod_one {a b : Int} (ha : a = 0 ∨ a = 1) (hb : b = 0 ∨ b = 1) : a * b = 1 ↔ a = 1 ∧ b = 1 := by
  rcases ha with rfl | rfl <;> rcases hb with rfl | rfl <;> simp
theorem kingD_iff {T : List (List Int)} {n i : Nat} (h : Beats n (ent T)) (hi : i < n) : kingD T n i n = kingB T n i := by
  rw [Bool.eq_iff_iff, kingB_iff]
  unfold kingD KingP overD
  simp only [List.all_eq_true, List.mem_range, Bool.or_eq_true, decide_eq_true_eq, List.any_eq_true]
  constructor
  · intro h1 k hk hne
    rcases h1 k hk with (e | e) | ⟨m, hm, e⟩
    · exact absurd e.symm hne
    · exact .inl e
    · exact .inr ⟨m, hm, (prod_one (h.one i m hi hm) (h.one m k hm hk)).1 e⟩
  · intro h1 k hk
    by_cases e : i = k
    · exact .inl (.inl e)
    · rcases h1 k hk (fun e2 => e e2.symm) with e2 | ⟨m, hm, e2, e3⟩
      · exact .inl (.inr e2)
      · exact .inr ⟨m, hm, (prod_one (h.one i m hi hm) (h.one m k hm hk)).2 ⟨e2, e3⟩⟩
theorem kingsTo_mem {T : List (List Int)} {n : Nat} : ∀ k v, v ∈ kingsTo T n k ↔ ∃ x : Nat, v = (x : Int) ∧ x < k ∧ kingB T n x = true
  | 0, v => by simp [kingsTo]
  | k + 1, v => by
    rw [kingsTo, List.mem_append, kingsTo_mem k v]
    constructor
    · rintro (⟨x, e, hx, hk⟩ | h)
      · exact ⟨x, e, by omega, hk⟩
      · split at h
        · rename_i hk
          exact ⟨k, by simpa using h, by omega, hk⟩
        · cases h
    · rintro ⟨x, e, hx, hk⟩
      by_cases e2 : x = k
      · subst e2
        exact .inr (by rw [if_pos hk]; simp [e])
      · exact .inl ⟨x, e, by omega, hk⟩
theorem kingsTo_sorted {T : List (List Int)} {n : Nat} : ∀ k, (kingsTo T n k).Pairwise (· < ·)
  | 0 => List.Pairwise.nil
  | k + 1 => by
    rw [kingsTo, List.pairwise_append]
    refine ⟨kingsTo_sorted k, by split <;> simp, fun a ha b hb => ?_⟩
    obtain ⟨x, rfl, hx, _⟩ := (kingsTo_mem k a).1 ha
    split at hb
    · obtain rfl := List.mem_singleton.1 hb
      omega
    · cases hb
theorem has_king {T : List (List Int)} {n x : Nat} (hx : x < n) : hasB (kingsTo T n n) (x : Int) = kingB T n x := by
  unfold hasB
  rw [Bool.eq_iff_iff, List.contains_iff_mem, kingsTo_mem]
  constructor
  · rintro ⟨y, e, _, hk⟩
    obtain rfl : x = y := by omega
    exact hk
  · intro hk
    exact ⟨x, rfl, hx, hk⟩
/-- There is a king, there are not two, and the one with most wins is one. -/
theorem kings_facts {T : List (List Int)} {n : Nat} (h : Beats n (ent T)) {u : Nat} (hu : u < n) (hm : ∀ x, x < n → winN T n x ≤ winN T n u) :
    (kingsTo T n n).length ≠ 0 ∧ (kingsTo T n n).length ≠ 2 ∧ kingB T n u = true ∧ ((kingsTo T n n).length = 1 ↔ winN T n u = n - 1) := by
  have hmw : ∀ x, x < n → winS (ent T) n x ≤ winS (ent T) n u := fun x hx => by rw [← winN_sum h hx, ← winN_sum h hu]; exact hm x hx
  have hku : kingB T n u = true := kingB_iff.2 (h.mostKing hu hmw)
  have hmem : (u : Int) ∈ kingsTo T n n := (kingsTo_mem n _).2 ⟨u, rfl, hu, hku⟩
  have hover : ∀ a : Nat, a < n → winS (ent T) n a ≠ n - 1 → ∃ c : Nat, c < n ∧ ent T c a = 1 ∧ kingB T n c = true := by
    intro a ha hne
    have hex : ∃ x, x < n ∧ ent T x a = 1 := by
      apply Classical.byContradiction
      intro hno
      apply hne
      rw [h.winAll ha]
      intro x hx
      rcases h.one x a hx ha with e | e
      · exact e
      · exact absurd ⟨x, hx, e⟩ hno
    obtain ⟨c, hc, e, hk⟩ := h.over ha hex
    exact ⟨c, hc, e, kingB_iff.2 hk⟩
  have honly : ∀ a : Nat, a < n → winS (ent T) n a = n - 1 → ∀ c : Nat, c < n → kingB T n c = true → c = a := fun a ha e c hc hk => king_all ha ((h.winAll ha).1 e) hc (kingB_iff.1 hk)
  have hlen : (kingsTo T n n).length = 1 ↔ winN T n u = n - 1 := by
    rw [winN_sum h hu]
    constructor
    · intro hl
      apply Classical.byContradiction
      intro hne
      obtain ⟨c, hc, e, hk⟩ := hover u hu hne
      have hcm : (c : Int) ∈ kingsTo T n n := (kingsTo_mem n _).2 ⟨c, rfl, hc, hk⟩
      obtain ⟨y, hy⟩ := List.length_eq_one_iff.1 hl
      rw [hy, List.mem_singleton] at hcm hmem
      obtain rfl : c = u := by omega
      rw [h.self c hc] at e
      cases e
    · intro e
      have hall : ∀ v ∈ kingsTo T n n, v = (u : Int) := fun v hv => by
        obtain ⟨x, rfl, hx, hk⟩ := (kingsTo_mem n v).1 hv
        rw [honly u hu e x hx hk]
      have hs := kingsTo_sorted (T := T) (n := n) n
      match hl : kingsTo T n n with
      | [] => rw [hl] at hmem; cases hmem
      | [a] => rfl
      | a :: b :: r =>
        rw [hl] at hall hs
        have e1 := hall a (by simp)
        have e2 := hall b (by simp)
        have := (List.pairwise_cons.1 hs).1 b (by simp)
        omega
  refine ⟨fun hl => ?_, fun hl => ?_, hku, hlen⟩
  · rw [List.eq_nil_of_length_eq_zero hl] at hmem
    cases hmem
  · obtain ⟨a, b, hab⟩ : ∃ a b, kingsTo T n n = [a, b] := by
      match hk : kingsTo T n n, hl with
      | [a, b], _ => exact ⟨a, b, rfl⟩
    have hs := kingsTo_sorted (T := T) (n := n) n
    rw [hab] at hs
    have hlt : a < b := (List.pairwise_cons.1 hs).1 b (by simp)
    obtain ⟨x, rfl, hx, hkx⟩ := (kingsTo_mem n a).1 (by rw [hab]; simp)
    obtain ⟨y, rfl, hy, hky⟩ := (kingsTo_mem n b).1 (by rw [hab]; simp)
    have hxy : x ≠ y := by omega
    have two : ∀ c : Nat, c < n → kingB T n c = true → c = x ∨ c = y := fun c hc hk => by
      have : (c : Int) ∈ kingsTo T n n := (kingsTo_mem n _).2 ⟨c, rfl, hc, hk⟩
      rw [hab] at this
      simp at this
      omega
    have hx1 : winS (ent T) n x ≠ n - 1 := fun e => hxy (honly x hx e y hy hky).symm
    have hy1 : winS (ent T) n y ≠ n - 1 := fun e => hxy (honly y hy e x hx hkx)
    obtain ⟨c, hc, e1, hk1⟩ := hover x hx hx1
    obtain ⟨d, hd, e2, hk2⟩ := hover y hy hy1
    have hp := h.pair x y hx hy hxy
    rcases two c hc hk1 with rfl | rfl
    · rw [h.self c hc] at e1
      cases e1
    · rcases two d hd hk2 with rfl | rfl
      · omega
      · rw [h.self d hd] at e2
        cases e2
end Go.Proofs.Ytahkihifgafbnaa
