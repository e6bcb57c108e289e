/- Plain: tables renamed. -/
import Derived.Test.YtahkihifgafbnaaYL
namespace Go.Proofs.Ytahkihifgafbnaa

theorem idx_at : ∀ {l : List Int} {i : Nat} {v : Int}, l.Nodup → l[i]? = some v → l.idxOf v = i
  | [], i, v, _, h => by simp at h
  | x :: r, 0, v, _, h => by
    simp at h
    subst h
    simp
  | x :: r, i + 1, v, hn, h => by
    rw [List.nodup_cons] at hn
    have h' : r[i]? = some v := by simpa using h
    have hne : ¬ x = v := fun e => hn.1 (e ▸ List.mem_of_getElem? h')
    have hb : (x == v) = false := by simpa using hne
    rw [List.idxOf_cons, idx_at hn.2 h', hb]
    rfl
theorem len_le : ∀ (n : Nat) (l : List Int), l.Nodup → (∀ x ∈ l, 0 ≤ x ∧ x < (n : Int)) → l.length ≤ n
  | 0, l, _, hr => by
    cases l with
    | nil => simp
    | cons x r => have := hr x (by simp); omega
  | n + 1, l, hn, hr => by
    have ih := len_le n (l.erase (n : Int)) (hn.erase _) (fun x hx => by
      have h1 := (hn.mem_erase_iff).1 hx
      have := hr x h1.2
      have := h1.1
      omega)
    have := List.length_erase (a := (n : Int)) (l := l)
    split at this <;> omega
theorem Ord.all {n : Nat} {l : List Int} (h : Ord n l) {x : Nat} (hx : x < n) : (x : Int) ∈ l := by
  refine Classical.byContradiction fun hm => ?_
  have := len_le n ((x : Int) :: l) (by rw [List.nodup_cons]; exact ⟨hm, h.dif⟩) (fun y hy => by
    rcases List.mem_cons.1 hy with e | e
    · subst e; omega
    · exact h.rng y e)
  rw [List.length_cons, h.len] at this
  omega
/-- The place of x in l. -/
def atN (l : List Int) (x : Nat) : Nat := l.idxOf (x : Int)
def ofN (l : List Int) (i : Nat) : Nat := (l.getD i 0).toNat
theorem Ord.of {n : Nat} {l : List Int} (h : Ord n l) {i : Nat} (hi : i < n) : l[i]? = some (ofN l i : Int) ∧ ofN l i < n ∧ atN l (ofN l i) = i := by
  have hil : i < l.length := by rw [h.len]; exact hi
  have hg : l[i]? = some l[i] := List.getElem?_eq_getElem hil
  have hr := h.rng _ (List.mem_of_getElem? hg)
  have e : (ofN l i : Int) = l[i] := by
    unfold ofN
    rw [List.getD_eq_getElem?_getD, hg]
    simp
    omega
  have e2 : l[i]? = some (ofN l i : Int) := by rw [e]; exact hg
  exact ⟨e2, by omega, idx_at h.dif e2⟩
theorem Ord.at_ {n : Nat} {l : List Int} (h : Ord n l) {x : Nat} (hx : x < n) : atN l x < n ∧ ofN l (atN l x) = x := by
  obtain ⟨i, hi⟩ := List.getElem?_of_mem (h.all hx)
  have hl := (List.getElem?_eq_some_iff.1 hi).1
  rw [h.len] at hl
  have e : atN l x = i := idx_at h.dif hi
  rw [e]
  refine ⟨hl, ?_⟩
  have := (h.of hl).1
  rw [hi] at this
  injection this with this
  omega
/-- The answers under new numbers. -/
def rnF (T : List (List Int)) (l : List Int) (x y : Nat) : Int := ent T (atN l x) (atN l y)
theorem rnF_beats {T : List (List Int)} {n : Nat} {l : List Int} (h : Beats n (ent T)) (ho : Ord n l) : Beats n (fun x y => rnF T l x y) :=
  ⟨fun i k hi hk => h.one _ _ (ho.at_ hi).1 (ho.at_ hk).1, fun i hi => h.self _ (ho.at_ hi).1, fun i k hi hk hne => h.pair _ _ (ho.at_ hi).1 (ho.at_ hk).1 (fun e => hne (by rw [← (ho.at_ hi).2, e, (ho.at_ hk).2]))⟩
theorem ups_map {n : Nat} {T B : List (List Int)} {p : Nat → Nat} (hB : ∀ i j, i < n → j < n → ent B (p i) (p j) = ent T i j) : ∀ o : List Int, (∀ x ∈ o, 0 ≤ x ∧ x < (n : Int)) → upsC B (o.map fun x => (p x.toNat : Int)) = upsC T o
  | [], _ => rfl
  | x :: r, hr => by
    have hx := hr x (by simp)
    rw [List.map_cons, upsC, upsC, ups_map hB r (fun y hy => hr y (by simp [hy])), List.countP_map]
    congr 1
    refine List.countP_congr fun y hy => ?_
    have hy' := hr y (by simp [hy])
    have e := hB y.toNat x.toNat (by omega) (by omega)
    simp only [Function.comp, Int.toNat_natCast, decide_eq_true_eq]
    rw [e]
theorem best_map {n : Nat} {T B : List (List Int)} {p : Nat → Nat} (h : Beats n (ent T)) (h1 : 1 ≤ n) (hp : ∀ i, i < n → p i < n) (hi : ∀ i j, i < n → j < n → p i = p j → i = j) (hB : ∀ i j, i < n → j < n → ent B (p i) (p j) = ent T i j) :
    (bestS B n).2 ≤ (bestS T n).2 := by
  obtain ⟨o, ho, e⟩ := bestS_att h h1
  rw [e, ← ups_map hB o ho.rng]
  refine bestS_min ⟨by rw [List.length_map]; exact ho.len, fun x hx => ?_, ?_⟩
  · obtain ⟨y, hy, rfl⟩ := List.mem_map.1 hx
    have := ho.rng y hy
    have := hp y.toNat (by omega)
    omega
  · rw [List.nodup_iff_pairwise_ne, List.pairwise_map]
    refine List.Pairwise.imp_of_mem (R := (· ≠ ·)) (fun {a b} ha hb hne e => hne ?_) (List.nodup_iff_pairwise_ne.1 ho.dif)
    have h1 := ho.rng a ha
    have h2 := ho.rng b hb
    have := hi a.toNat b.toNat (by omega) (by omega) (by omega)
    omega
theorem rn_best {n : Nat} {T B : List (List Int)} {l : List Int} (h : Beats n (ent T)) (h1 : 1 ≤ n) (ho : Ord n l) (hB : ∀ x y, x < n → y < n → ent B x y = rnF T l x y) : (bestS B n).2 = (bestS T n).2 := by
  have hb : Beats n (ent B) := ⟨fun i k hi hk => by rw [hB i k hi hk]; exact (rnF_beats h ho).one i k hi hk, fun i hi => by rw [hB i i hi hi]; exact (rnF_beats h ho).self i hi, fun i k hi hk hne => by rw [hB i k hi hk, hB k i hk hi]; exact (rnF_beats h ho).pair i k hi hk hne⟩
  refine Nat.le_antisymm (best_map h h1 (p := ofN l) (fun i hi => (ho.of hi).2.1) (fun i j hi hj e => by rw [← (ho.of hi).2.2, e, (ho.of hj).2.2]) fun i j hi hj => ?_) (best_map hb h1 (p := atN l) (fun i hi => (ho.at_ hi).1) (fun i j hi hj e => by rw [← (ho.at_ hi).2, e, (ho.at_ hj).2]) fun i j hi hj => ?_)
  · rw [hB _ _ (ho.of hi).2.1 (ho.of hj).2.1]
    unfold rnF
    rw [(ho.of hi).2.2, (ho.of hj).2.2]
  · rw [hB i j hi hj]
    rfl
end Go.Proofs.Ytahkihifgafbnaa
