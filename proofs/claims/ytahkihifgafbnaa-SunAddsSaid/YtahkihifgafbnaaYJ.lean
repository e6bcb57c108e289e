/- Plain: the table turned back; the fewest upsets are some order's. -/
import Derived.Test.YtahkihifgafbnaaYF
import Derived.Test.YtahkihifgafbnaaXA
namespace Go.Proofs.Ytahkihifgafbnaa

/-- Some order has so many upsets. -/
def Att (T : List (List Int)) (n x : Nat) : Prop := ∃ l, Ord n l ∧ x = upsC T l
theorem placeS_att (T : List (List Int)) (n : Nat) : ∀ d order st, order.length + d = n → (∀ x ∈ order, 0 ≤ x ∧ x < (n : Int)) → order.Nodup → (placeS T n d order (upsC T order) st).2 = st.2 ∨ Att T n (placeS T n d order (upsC T order) st).2
  | 0, order, st, hl, hr, hn => by
    rw [placeS]
    split
    · exact .inl rfl
    · exact .inr ⟨order, ⟨by omega, hr, hn⟩, rfl⟩
  | d + 1, order, st, hl, hr, hn => by
    rw [placeS]
    split
    · exact .inl rfl
    · have hstep : ∀ (x : Fin n) st', x ∈ restO n order → (placeS T n d (order ++ [(x.val : Int)]) (upsC T order + beatN T x.val order) st').2 = st'.2 ∨ Att T n (placeS T n d (order ++ [(x.val : Int)]) (upsC T order + beatN T x.val order) st').2 := fun x st' hx => by
        have hno := (mem_rest x).1 hx
        have e : upsC T order + beatN T x.val order = upsC T (order ++ [(x.val : Int)]) := by
          rw [upsC_snoc]
          simp
        rw [e]
        refine placeS_att T n d _ st' (by simp; omega) (fun y hy => ?_) ?_
        · rcases List.mem_append.1 hy with h | h
          · exact hr y h
          · simp at h
            have := x.isLt
            omega
        · rw [List.nodup_append]
          exact ⟨hn, by simp, fun a ha b hb e => hno (by simp at hb; rw [← hb, ← e]; exact ha)⟩
      have hfold : ∀ (L : List (Fin n)) st', (∀ x ∈ L, x ∈ restO n order) → (L.foldl (fun st x => placeS T n d (order ++ [(x.val : Int)]) (upsC T order + beatN T x.val order) st) st').2 = st'.2 ∨ Att T n (L.foldl (fun st x => placeS T n d (order ++ [(x.val : Int)]) (upsC T order + beatN T x.val order) st) st').2 := by
        intro L
        induction L with
        | nil => intro st' _; exact .inl rfl
        | cons x L ih =>
          intro st' hL
          rw [List.foldl_cons]
          rcases ih (placeS T n d (order ++ [(x.val : Int)]) (upsC T order + beatN T x.val order) st') (fun y hy => hL y (by simp [hy])) with h | h
          · rcases hstep x st' (hL x (by simp)) with h2 | h2
            · exact .inl (h.trans h2)
            · exact .inr (by rw [h]; exact h2)
          · exact .inr h
      exact hfold _ st fun _ h => h
theorem ord_id (n : Nat) : Ord n ((List.range n).map fun i : Nat => (i : Int)) := by
  refine ⟨by simp, fun x hx => ?_, ?_⟩
  · obtain ⟨i, hi, rfl⟩ := List.mem_map.1 hx
    have := List.mem_range.1 hi
    omega
  · rw [List.nodup_iff_pairwise_ne, List.pairwise_map]
    exact List.nodup_range.imp fun h e => h (by omega)
theorem bestS_att {T : List (List Int)} {n : Nat} (h : Beats n (ent T)) (h1 : 1 ≤ n) : Att T n (bestS T n).2 := by
  rcases placeS_att T n n [] ([], n * n) (by simp) (fun x hx => by simp at hx) List.nodup_nil with e | e
  · exfalso
    have e' : (bestS T n).2 = n * n := e
    have ho := ord_id n
    have hm := bestS_min (T := T) ho
    have hp := upsC_pair h _ ho.rng ho.dif
    rw [ho.len] at hp
    obtain ⟨k, rfl⟩ : ∃ k, n = k + 1 := ⟨n - 1, by omega⟩
    rw [e'] at hm
    simp only [Nat.add_sub_cancel] at hp
    have : (k + 1) * (k + 1) = (k + 1) * k + (k + 1) := Nat.mul_succ _ _
    omega
  · exact e
/-- B has the answers of T the other way. -/
def Rev (n : Nat) (T B : List (List Int)) : Prop := ∀ a b, a < n → b < n → ent B a b = ent T b a
theorem Rev.symm {n : Nat} {T B : List (List Int)} (h : Rev n T B) : Rev n B T := fun a b ha hb => (h b a hb ha).symm
theorem Rev.beats {n : Nat} {T B : List (List Int)} (h : Rev n T B) (hb : Beats n (ent T)) : Beats n (ent B) :=
  ⟨fun i k hi hk => by rw [h i k hi hk]; exact hb.one k i hk hi, fun i hi => by rw [h i i hi hi]; exact hb.self i hi, fun i k hi hk hne => by rw [h i k hi hk, h k i hk hi]; exact hb.pair k i hk hi (Ne.symm hne)⟩
theorem Rev.ups {n : Nat} {T B : List (List Int)} (h : Rev n T B) : ∀ l : List Int, (∀ x ∈ l, 0 ≤ x ∧ x < (n : Int)) → upsC B l.reverse = upsC T l
  | [], _ => rfl
  | x :: r, hr => by
    rw [List.reverse_cons, upsC_snoc, upsC, Rev.ups h r (fun y hy => hr y (by simp [hy]))]
    have hx := hr x (by simp)
    have e : beatN B x.toNat r.reverse = r.countP fun y => decide (ent T y.toNat x.toNat = 1) := by
      unfold beatN
      rw [List.countP_reverse]
      refine List.countP_congr fun y hy => ?_
      have hy' := hr y (by simp [hy])
      rw [h x.toNat y.toNat (by omega) (by omega)]
    rw [e]
    omega
theorem Rev.best_le {n : Nat} {T B : List (List Int)} (h : Rev n T B) (hb : Beats n (ent T)) (h1 : 1 ≤ n) : (bestS B n).2 ≤ (bestS T n).2 := by
  obtain ⟨l, ho, e⟩ := bestS_att hb h1
  rw [e, ← h.ups l ho.rng]
  exact bestS_min ho.rev
theorem Rev.best {n : Nat} {T B : List (List Int)} (h : Rev n T B) (hb : Beats n (ent T)) (h1 : 1 ≤ n) : (bestS B n).2 = (bestS T n).2 :=
  Nat.le_antisymm (h.best_le hb h1) (h.symm.best_le (h.beats hb) h1)
theorem tripS_rev {f g : Nat → Nat → Int} {n : Nat} (h : ∀ a b, a < n → b < n → g a b = f b a) : tripS g n = tripS f n := by
  unfold tripS
  rw [sumTo_swap]
  refine sumTo_congr n fun i hi => sumTo_congr n fun k hk => sumTo_congr n fun m hm => ?_
  rw [h k i hk hi, h i m hi hm, h m k hm hk, Int.mul_assoc, Int.mul_comm (f m i), Int.mul_assoc]
theorem Rev.rings {n : Nat} {T B : List (List Int)} (h : Rev n T B) (hb : Beats n (ent T)) : ringTo B n n = ringTo T n n := by
  have e1 := (h.beats hb).trip3
  have e2 := hb.trip3
  have e3 := ringTo_ring (h.beats hb)
  have e4 := ringTo_ring hb
  have e5 := tripS_rev h
  omega
/-- The table turned back. -/
def backL (T : List (List Int)) (n : Nat) : List (List Int) := (List.range n).map fun a => (List.range n).map fun b => ent T b a
theorem backL_len (T : List (List Int)) (n : Nat) : (backL T n).length = n := by simp [backL]
theorem backL_at {T : List (List Int)} {n i : Nat} {r : List Int} (h : (backL T n)[i]? = some r) : i < n ∧ r = (List.range n).map fun b => ent T b i := by
  have hi := (List.getElem?_eq_some_iff.1 h).1
  rw [backL_len] at hi
  unfold backL at h
  rw [List.getElem?_map, List.getElem?_range hi] at h
  simp at h
  exact ⟨hi, h.symm⟩
theorem backL_rev (T : List (List Int)) (n : Nat) : Rev n T (backL T n) := fun a b ha hb => by
  unfold ent backL
  rw [List.getElem?_map, List.getElem?_range ha]
  simp [hb, ent]
/-- Right tables, told from their answers. -/
theorem errT_right {B : List (List Int)} {n : Nat} (hn : B.length = n) (h1 : 1 ≤ n) (h7 : n ≤ 7) (hr : ∀ r ∈ B, r.length = n) (hb : Beats n (ent B)) : errT B = 0 := by
  have hsq : Square B n := ⟨hn, hr⟩
  have hrw : rowsB B n = true := by
    unfold rowsB
    rw [List.all_eq_true]
    intro r hm
    obtain ⟨i, hi⟩ := List.getElem?_of_mem hm
    have hil := (List.getElem?_eq_some_iff.1 hi).1
    rw [hn] at hil
    unfold rowB
    rw [Bool.and_eq_true, List.all_eq_true]
    refine ⟨fun x hx => ?_, by rw [hr r hm]; simp⟩
    obtain ⟨j, hj⟩ := List.getElem?_of_mem hx
    have hjl := (List.getElem?_eq_some_iff.1 hj).1
    rw [hr r hm] at hjl
    obtain ⟨r2, q1, -, q3⟩ := hsq.at_ hil hjl
    rw [hi] at q1
    injection q1 with q1
    subst q1
    rw [hj] at q3
    injection q3 with q3
    rcases hb.one i j hil hjl with e | e <;> simp [q3, e]
  have hdg : diagB B n = true := by
    unfold diagB pairsB
    rw [List.all_eq_true]
    intro a ha
    have ha' := List.mem_range.1 ha
    rw [Bool.and_eq_true, List.all_eq_true]
    refine ⟨by simp [hb.self a ha'], fun b hb' => ?_⟩
    have hbl := List.mem_range.1 hb'
    have hp := hb.pair a b ha' (by omega) (by omega)
    have : ¬ ent B a b = ent B b a := by omega
    simp [this]
  unfold errT
  rw [if_pos (by omega), hn, hrw, hdg]
  rfl
theorem backL_err {T : List (List Int)} {n : Nat} (hb : Beats n (ent T)) (h1 : 1 ≤ n) (h7 : n ≤ 7) : errT (backL T n) = 0 :=
  errT_right (backL_len T n) h1 h7 (fun r hr => by
    obtain ⟨i, hi⟩ := List.getElem?_of_mem hr
    rw [(backL_at hi).2]
    simp) ((backL_rev T n).beats hb)
end Go.Proofs.Ytahkihifgafbnaa
