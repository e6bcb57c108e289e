/- Records: the document's Without, walked where there is such an answer. -/
import Derived.Test.YtjcompmmjcefhaaRB
import Derived.Deep.Onto
namespace Go.Proofs.Ytjcompmmjcefhaa
open Go.RowKit

/-- An append of no answer, at a step of a region that draws; the number is known to be 0. -/
theorem step_appZ {ops : Array Oper} {o : Oper} {a : Act} {w : World} {K : Act → World → Prop} {Q : Exit → Act → World → Prop} {E : Prop} (hgd : o.guard = none) (s x : Operand)
    (ho : o.op = .call { callee := .builtin .append, args := #[s, x], argTypes := #[22, 22] }) (b0 : Addr) (m cap : Nat) (p : Option Addr) (c z : Nat) (hz : z = 0) (hm : m ≤ cap)
    (hs : a.eval s = .slice (some b0) m cap) (hx : a.eval x = .slice p z c) (h : K (a.put o.dst (.slice (some b0) m cap)) w) :
    if Region.wanted o (yielded ops a.tmps) = true then Oper.wp Try.prog o a w K Q else E := by
  subst hz
  exact step_appA hgd s x ho b0 m cap p c hm hs hx h
theorem ownsRow_cap {w : World} {base e size n g cap m : Nat} {xs : List Value} (h : w.ownsRow base e size (.slice (some ⟨g, 0, none⟩) m cap) n xs) : n ≤ cap := by
  rcases h.2 with ⟨hv, -⟩ | ⟨g', cap', cur, hv, hb, hg, hn, hm, hs, ht⟩
  · cases hv
  · injection hv with h1 h2 h3
    subst h3
    exact hn
theorem wo_cells (L : List An) {vs : List Value} {n k : Nat} (hl : vs.length = n * 2) (hk : k < n) (j : Nat) : ∃ i, (L.eraseIdx k)[j]? = L[i]? ∧ (vs.take (k * 2) ++ vs.drop ((k + 1) * 2))[j * 2]? = vs[i * 2]? ∧ (vs.take (k * 2) ++ vs.drop ((k + 1) * 2))[j * 2 + 1]? = vs[i * 2 + 1]? := by
  have ht : (vs.take (k * 2)).length = k * 2 := by rw [List.length_take]; omega
  refine ⟨if j < k then j else j + 1, erase_at L k j, ?_, ?_⟩
  · by_cases h : j < k
    · rw [if_pos h, List.getElem?_append_left (by omega), List.getElem?_take, if_pos (by omega)]
    · rw [if_neg h, List.getElem?_append_right (by omega), ht, List.getElem?_drop]
      congr 1
      omega
  · by_cases h : j < k
    · rw [if_pos h, List.getElem?_append_left (by omega), List.getElem?_take, if_pos (by omega)]
    · rw [if_neg h, List.getElem?_append_right (by omega), ht, List.getElem?_drop]
      congr 1
      omega
theorem erase_len {L : List An} {n k : Nat} (hn : L.length = n) (hk : k < n) : (L.eraseIdx k).length = n - 1 := by
  rw [List.length_eraseIdx_of_lt (by omega), hn]
theorem OwnV.one {base : Nat} {w : World} {v : Value} {L : List An} {vs : List Value} (h : OwnV base w v L vs) : ∀ u ∈ vs, u.oneCell' = true := by
  intro u hu
  obtain ⟨j, hj⟩ := List.mem_iff_getElem?.1 hu
  have hl := (List.getElem?_eq_some_iff.1 hj).1
  have hlv := h.len
  have h2 : j / 2 < L.length := by omega
  obtain ⟨A', n', c', e1, e2, -⟩ := h.els (j / 2) L[j / 2].1 L[j / 2].2 (List.getElem?_eq_getElem h2)
  rcases (by omega : j = j / 2 * 2 ∨ j = j / 2 * 2 + 1) with e | e
  · rw [e, e1] at hj; injection hj with hj; rw [← hj]; rfl
  · rw [e, e2] at hj; injection hj with hj; rw [← hj]; rfl
theorem takes {w3 w' : World} {g0 : Nat} {vs : List Value} (h : ∀ w', Bel w3 w' → ∀ j u, vs[j]? = some u → w'.cell? ⟨g0, j, none⟩ = some u) (hb : Bel w3 w') (m : Nat) : ∀ j u, (vs.take m)[j]? = some u → w'.cell? ((⟨g0, 0, none⟩ : Addr).add j) = some u := by
  intro j u hj
  rw [List.getElem?_take] at hj
  split at hj
  · have := h w' hb j u hj
    rw [Go.Addr.add_mid]
    simpa using this
  · cases hj
theorem drops {w3 w' : World} {g0 : Nat} {vs : List Value} (h : ∀ w', Bel w3 w' → ∀ j u, vs[j]? = some u → w'.cell? ⟨g0, j, none⟩ = some u) (hb : Bel w3 w') (m : Nat) : ∀ j u, (vs.drop m)[j]? = some u → w'.cell? ((⟨g0, m, none⟩ : Addr).add j) = some u := by
  intro j u hj
  rw [List.getElem?_drop] at hj
  rw [Go.Addr.add_mid]
  exact h w' hb _ u hj
set_option maxRecDepth 100000 in
set_option maxHeartbeats 4000000 in
theorem rWithout_ok (g : Int) (A : Option Addr) (n c : Nat) (L : List An) (k : Nat) (w : World) (hR : Ans w A L) (hn : L.length = n) (h12 : n ≤ 12) (hshort : ∀ a ∈ L, a.1.length ≤ 100) (he : errA g L = 0) (hk : k < n) :
    Calls Try.prog 34 #[.int .i64 g, .slice A n c, .int .i64 (k : Int)] w (Without w (L.eraseIdx k)) := by
  obtain ⟨i0, hi, hz0, hz1, hz2⟩ := info_parts info2A
  have Hn := Lib.hid hn
  have HE := Lib.hid he
  have HSH := Lib.hid hshort
  have hki : (k : Int) < (n : Int) := by omega
  have hk0 : (0 : Int) ≤ (k : Int) := by omega
  have hn12 : (n : Int) ≤ 12 := by omega
  have hkw : IntKind.i64.wrap ((k : Int) + 1) = (k : Int) + 1 := IntWalk.i64_in _ (by omega)
  have HK := Lib.hid (show 0 ≤ (k : Int) ∧ (k : Int) ≤ (n : Int) - 1 by omega)
  clear hn he hshort
  go_enter Try.func34, Try.ntmps34
  go_wp2_with fail
  refine (rValidate_any g A n c L _ hR Hn.out (by unfold maxLen; omega)).mono ?_
  rintro e w1 ⟨rfl, hb1⟩
  rw [HE.out]
  go_wp2_with fail
  refine (within_yes k 0 ((n : Int) - 1) _ HK.out).mono ?_
  rintro e w2 ⟨rfl, rfl⟩
  go_wp2_with fail
  refine (rCopy_any A n c L _ (hR.bel hb1) Hn.out (by omega) HSH.out).mono ?_
  rintro e w3 ⟨v, rfl, ⟨vs, hO⟩, hb3, hs3⟩
  rcases hO.own.2 with ⟨hv, h0⟩ | ⟨g0, c0, cur, rfl, hb9, hg9, hnc, hm9, hs9, ht9⟩
  · exact absurd h0 (by rw [Hn.out]; omega)
  · have hvl := hO.len
    have hcl := fun j u (h : vs[j]? = some u) => World.ownsRow.cells (g := g0) hO.own rfl j u h
    have hg0 := (World.ownsRow.lt hO.own g0 rfl).2
    have hone := hO.one
    clear hb9 hg9 hm9 hs9 ht9
    rw [Hn.out] at hnc hvl
    rw [Hn.out]
    have hk2 : k < c0 := by omega
    have hkc : (k : Int) ≤ (c0 : Int) := by omega
    have hnci : (n : Int) ≤ (c0 : Int) := by omega
    have hcells : Hid (∀ w', Bel w3 w' → ∀ j u, vs[j]? = some u → w'.cell? ⟨g0, j, none⟩ = some u) := by
      intro w' hb' j u hj
      have := hcl j u hj
      rw [Go.Addr.add_mid] at this
      rw [hb'.use.1 _ _ hg0]
      simpa using this
    have HO := Lib.hid hO
    have HVL := Lib.hid hvl
    have HON := Lib.hid hone
    have hlit : Hid ((w3.alloc (.cells #[] 25)).ownsRow w3.heap.size 25 2 (.slice (some ⟨w3.heap.size, 0, none⟩) 0 0) 0 []) := World.ownsRow_lit w3 #[] 0 (Nat.le_refl _) (by unfold maxLen; omega) rfl
    have hbw3 : Bel w w3 := hb1.trans hb3
    clear hO hvl hcl hone
    have HWC := Lib.hid (wo_cells L (k := k) HVL.out hk)
    have HEL := Lib.hid (erase_len Hn.out hk)
    have hend : k + 1 = n ∨ k + 1 < n := by omega
    by_cases hk0' : k = 0
    · have HK0 := Lib.hid hk0'
      have hX3 := Lib.hid (show 0 + (n - (k + 1)) ≤ maxLen by unfold maxLen; omega)
      have hX4 := Lib.hid (show (0 + (n - (k + 1))) * 32 ≤ 140737488355328 by omega)
      clear hk0'
      rcases hend with hkn | hkn
      · have HZ := Lib.hid (show n - (k + 1) = 0 by omega)
        have hk4 : (k : Int) + 1 ≤ (n : Int) := by omega
        have HEMP := Lib.hid (show L.eraseIdx k = [] from List.eq_nil_of_length_eq_zero (by rw [HEL.out]; have := HK0.out; omega))
        rcases (by omega : k + 1 = c0 ∨ k + 1 < c0) with hkc1 | hkc1
        · clear hkn
          subst hkc1
          go_wp2
          go_region_held_law (fun w' => Bel w w') (exact (by (repeat (first | exact Bel.refl _ | assumption | refine Bel.drew ?_ | refine Bel.drewN ?_ _ | refine Bel.alloc ?_ _ | refine Bel.setCell ?_ (by first | omega | (simp; done) | (simp; omega) | (simp at *; omega)) _ | refine Bel.trans ?_ (by assumption)))))
            (first
              | (refine step_appZ rfl (.tmp 24) (.tmp 27) rfl ⟨w3.heap.size, 0, none⟩ 0 0 _ _ k HK0.out (Nat.le_refl _) (by rfl) (by rfl) ?_)
              | (refine step_appZ rfl (.tmp 28) (.tmp 32) rfl ⟨w3.heap.size, 0, none⟩ 0 0 _ _ _ HZ.out (Nat.le_refl _) (by rfl) (by rfl) ?_))
          all_goals
            go_wp2
            go_ret2
            exact ⟨some ⟨w3.heap.size, 0, none⟩, 0, 0, by simp, by rw [HEMP.out]; rfl, by (repeat (first | exact Bel.refl _ | assumption | refine Bel.drew ?_ | refine Bel.drewN ?_ _ | refine Bel.alloc ?_ _ | refine Bel.setCell ?_ (by first | omega | (simp; done) | (simp; omega) | (simp at *; omega)) _ | refine Bel.trans ?_ (by assumption))), by rw [HEMP.out]; exact .inl rfl⟩
        · have hk5 : (k : Int) + 1 < (c0 : Int) := by omega
          clear hkn
          go_wp2
          go_region_held_law (fun w' => Bel w w') (exact (by (repeat (first | exact Bel.refl _ | assumption | refine Bel.drew ?_ | refine Bel.drewN ?_ _ | refine Bel.alloc ?_ _ | refine Bel.setCell ?_ (by first | omega | (simp; done) | (simp; omega) | (simp at *; omega)) _ | refine Bel.trans ?_ (by assumption)))))
            (first
              | (refine step_appZ rfl (.tmp 24) (.tmp 27) rfl ⟨w3.heap.size, 0, none⟩ 0 0 _ _ k HK0.out (Nat.le_refl _) (by rfl) (by rfl) ?_)
              | (refine step_appZ rfl (.tmp 28) (.tmp 32) rfl ⟨w3.heap.size, 0, none⟩ 0 0 _ _ _ HZ.out (Nat.le_refl _) (by rfl) (by rfl) ?_))
          all_goals
            go_wp2
            go_ret2
            exact ⟨some ⟨w3.heap.size, 0, none⟩, 0, 0, by simp, by rw [HEMP.out]; rfl, by (repeat (first | exact Bel.refl _ | assumption | refine Bel.drew ?_ | refine Bel.drewN ?_ _ | refine Bel.alloc ?_ _ | refine Bel.setCell ?_ (by first | omega | (simp; done) | (simp; omega) | (simp at *; omega)) _ | refine Bel.trans ?_ (by assumption))), by rw [HEMP.out]; exact .inl rfl⟩
      · have hr0 : 0 < n - (k + 1) := by omega
        have hk3 : (k : Int) + 1 < (n : Int) := by omega
        have hk4 : (k : Int) + 1 ≤ (n : Int) := by omega
        have hk5 : (k : Int) + 1 < (c0 : Int) := by omega
        have hk6 : k + 1 < c0 := by omega
        have HTK := Lib.hid (show vs.take (k * 2) = [] by rw [HK0.out]; rfl)
        clear hkn
        go_wp2
        go_region_held_law (fun w' => Bel w w') (first | exact hB5 | exact (by (repeat (first | exact Bel.refl _ | assumption | refine Bel.drew ?_ | refine Bel.drewN ?_ _ | refine Bel.alloc ?_ _ | refine Bel.setCell ?_ (by first | omega | (simp; done) | (simp; omega) | (simp at *; omega)) _ | refine Bel.trans ?_ (by assumption)))))
          (first
            | (refine step_appZ rfl (.tmp 24) (.tmp 27) rfl ⟨w3.heap.size, 0, none⟩ 0 0 _ _ k HK0.out (Nat.le_refl _) (by rfl) (by rfl) ?_)
            | (refine step_append_lies _ rfl (.tmp 28) (.tmp 32) 22 rfl w3.heap.size 25 i0 _ 2 32 Try.underlying22 hi hz0 hz1 hz2 rfl (by decide) _ 0 [] (by rfl) (ownsRow_bel hlit.out (by (repeat (first | exact Bel.refl _ | assumption | refine Bel.drew ?_ | refine Bel.drewN ?_ _ | refine Bel.alloc ?_ _ | refine Bel.setCell ?_ (by first | omega | (simp; done) | (simp; omega) | (simp at *; omega)) _ | refine Bel.trans ?_ (by assumption))))) ⟨g0, (k + 1) * 2, none⟩ (n - (k + 1)) (c0 - (k + 1)) (vs.drop ((k + 1) * 2)) (by rfl) (by rw [List.length_drop, HVL.out]; omega) (drops hcells.out (by (repeat (first | exact Bel.refl _ | assumption | refine Bel.drew ?_ | refine Bel.drewN ?_ _ | refine Bel.alloc ?_ _ | refine Bel.setCell ?_ (by first | omega | (simp; done) | (simp; omega) | (simp at *; omega)) _ | refine Bel.trans ?_ (by assumption)))) _) (fun u hu => HON.out u (List.mem_of_mem_drop hu)) hr0 hX3.out hX4.out (by simp) _ rfl ?_; intro g5 cap5 w5 hown5 hgr5 hat5 hlt5; have hB35 := grown_own (w := w3) (by (repeat (first | exact Bel.refl _ | assumption | refine Bel.drew ?_ | refine Bel.drewN ?_ _ | refine Bel.alloc ?_ _ | refine Bel.setCell ?_ (by first | omega | (simp; done) | (simp; omega) | (simp at *; omega)) _ | refine Bel.trans ?_ (by assumption)))) hlit.out (Nat.le_refl _) hgr5; have hB5 := hbw3.trans hB35))
        all_goals
          have HFIN := Lib.hid (HO.out.pick (M := L.eraseIdx k) hB35 hown5 (fun j _ => by have := HWC.out j; rw [HTK.out] at this; exact this))
          have HLN := Lib.hid (show 0 + (n - (k + 1)) = (L.eraseIdx k).length by rw [HEL.out]; have := HK0.out; omega)
          clear hown5 hgr5 hat5 hlt5
          go_wp2
          go_ret2
          exact ⟨some ⟨g5, 0, none⟩, 0 + (n - (k + 1)), cap5, by simp, HLN.out, by (repeat (first | exact Bel.refl _ | assumption | refine Bel.drew ?_ | refine Bel.drewN ?_ _ | refine Bel.alloc ?_ _ | refine Bel.setCell ?_ (by first | omega | (simp; done) | (simp; omega) | (simp at *; omega)) _ | refine Bel.trans ?_ (by assumption))), HFIN.out.bel (by (repeat (first | exact Bel.refl _ | assumption | refine Bel.drew ?_ | refine Bel.drewN ?_ _ | refine Bel.alloc ?_ _ | refine Bel.setCell ?_ (by first | omega | (simp; done) | (simp; omega) | (simp at *; omega)) _ | refine Bel.trans ?_ (by assumption))))⟩
    · have hkp : 0 < k := by omega
      have hX1 := Lib.hid (show 0 + k ≤ maxLen by unfold maxLen; omega)
      have hX2 := Lib.hid (show (0 + k) * 32 ≤ 140737488355328 by omega)
      have hX3 := Lib.hid (show k + (n - (k + 1)) ≤ maxLen by unfold maxLen; omega)
      have hX4 := Lib.hid (show (k + (n - (k + 1))) * 32 ≤ 140737488355328 by omega)
      clear hk0'
      rcases hend with hkn | hkn
      · have HZ := Lib.hid (show n - (k + 1) = 0 by omega)
        have HKN := Lib.hid hkn
        have hk4 : (k : Int) + 1 ≤ (n : Int) := by omega
        have HDR := Lib.hid (show vs.drop ((k + 1) * 2) = [] from List.drop_of_length_le (by rw [HVL.out, HKN.out]; omega))
        rcases (by omega : k + 1 = c0 ∨ k + 1 < c0) with hkc1 | hkc1
        · clear hkn
          subst hkc1
          go_wp2
          go_region_held_law (fun w' => Bel w w') (first | exact hB4 | exact (by (repeat (first | exact Bel.refl _ | assumption | refine Bel.drew ?_ | refine Bel.drewN ?_ _ | refine Bel.alloc ?_ _ | refine Bel.setCell ?_ (by first | omega | (simp; done) | (simp; omega) | (simp at *; omega)) _ | refine Bel.trans ?_ (by assumption)))))
            (first
              | (refine step_append_lies _ rfl (.tmp 24) (.tmp 27) 22 rfl w3.heap.size 25 i0 _ 2 32 Try.underlying22 hi hz0 hz1 hz2 rfl (by decide) _ 0 [] (by rfl) (ownsRow_bel hlit.out (by (repeat (first | exact Bel.refl _ | assumption | refine Bel.drew ?_ | refine Bel.drewN ?_ _ | refine Bel.alloc ?_ _ | refine Bel.setCell ?_ (by first | omega | (simp; done) | (simp; omega) | (simp at *; omega)) _ | refine Bel.trans ?_ (by assumption))))) ⟨g0, 0, none⟩ k (k + 1) (vs.take (k * 2)) (by rfl) (by rw [List.length_take, HVL.out]; omega) (takes hcells.out (by (repeat (first | exact Bel.refl _ | assumption | refine Bel.drew ?_ | refine Bel.drewN ?_ _ | refine Bel.alloc ?_ _ | refine Bel.setCell ?_ (by first | omega | (simp; done) | (simp; omega) | (simp at *; omega)) _ | refine Bel.trans ?_ (by assumption)))) _) (fun u hu => HON.out u (List.mem_of_mem_take hu)) hkp hX1.out hX2.out (by simp) _ rfl ?_; intro g4 cap4 w4; rw [show 0 + k = k from Nat.zero_add k, List.nil_append]; intro hown4 hgr4 hat4 hlt4; have hB34 := grown_own (w := w3) (by (repeat (first | exact Bel.refl _ | assumption | refine Bel.drew ?_ | refine Bel.drewN ?_ _ | refine Bel.alloc ?_ _ | refine Bel.setCell ?_ (by first | omega | (simp; done) | (simp; omega) | (simp at *; omega)) _ | refine Bel.trans ?_ (by assumption)))) hlit.out (Nat.le_refl _) hgr4; have hB4 := hbw3.trans hB34; have hcap4 := ownsRow_cap hown4)
              | (refine step_appZ rfl (.tmp 28) (.tmp 32) rfl ⟨g4, 0, none⟩ k cap4 _ _ _ HZ.out hcap4 (by rfl) (by rfl) ?_))
          all_goals
            have HFIN := Lib.hid (HO.out.pick (M := L.eraseIdx k) hB34 hown4 (fun j _ => by have := HWC.out j; rw [HDR.out, List.append_nil] at this; exact this))
            have HLN := Lib.hid (show k = (L.eraseIdx k).length by rw [HEL.out]; have := HKN.out; omega)
            clear hown4 hgr4 hat4 hlt4
            go_wp2
            go_ret2
            exact ⟨_, _, _, by simp; rfl, HLN.out, by (repeat (first | exact Bel.refl _ | assumption | refine Bel.drew ?_ | refine Bel.drewN ?_ _ | refine Bel.alloc ?_ _ | refine Bel.setCell ?_ (by first | omega | (simp; done) | (simp; omega) | (simp at *; omega)) _ | refine Bel.trans ?_ (by assumption))), HFIN.out.bel (by (repeat (first | exact Bel.refl _ | assumption | refine Bel.drew ?_ | refine Bel.drewN ?_ _ | refine Bel.alloc ?_ _ | refine Bel.setCell ?_ (by first | omega | (simp; done) | (simp; omega) | (simp at *; omega)) _ | refine Bel.trans ?_ (by assumption))))⟩
        · have hk5 : (k : Int) + 1 < (c0 : Int) := by omega
          clear hkn
          go_wp2
          go_region_held_law (fun w' => Bel w w') (first | exact hB4 | exact (by (repeat (first | exact Bel.refl _ | assumption | refine Bel.drew ?_ | refine Bel.drewN ?_ _ | refine Bel.alloc ?_ _ | refine Bel.setCell ?_ (by first | omega | (simp; done) | (simp; omega) | (simp at *; omega)) _ | refine Bel.trans ?_ (by assumption)))))
            (first
              | (refine step_append_lies _ rfl (.tmp 24) (.tmp 27) 22 rfl w3.heap.size 25 i0 _ 2 32 Try.underlying22 hi hz0 hz1 hz2 rfl (by decide) _ 0 [] (by rfl) (ownsRow_bel hlit.out (by (repeat (first | exact Bel.refl _ | assumption | refine Bel.drew ?_ | refine Bel.drewN ?_ _ | refine Bel.alloc ?_ _ | refine Bel.setCell ?_ (by first | omega | (simp; done) | (simp; omega) | (simp at *; omega)) _ | refine Bel.trans ?_ (by assumption))))) ⟨g0, 0, none⟩ k c0 (vs.take (k * 2)) (by rfl) (by rw [List.length_take, HVL.out]; omega) (takes hcells.out (by (repeat (first | exact Bel.refl _ | assumption | refine Bel.drew ?_ | refine Bel.drewN ?_ _ | refine Bel.alloc ?_ _ | refine Bel.setCell ?_ (by first | omega | (simp; done) | (simp; omega) | (simp at *; omega)) _ | refine Bel.trans ?_ (by assumption)))) _) (fun u hu => HON.out u (List.mem_of_mem_take hu)) hkp hX1.out hX2.out (by simp) _ rfl ?_; intro g4 cap4 w4; rw [show 0 + k = k from Nat.zero_add k, List.nil_append]; intro hown4 hgr4 hat4 hlt4; have hB34 := grown_own (w := w3) (by (repeat (first | exact Bel.refl _ | assumption | refine Bel.drew ?_ | refine Bel.drewN ?_ _ | refine Bel.alloc ?_ _ | refine Bel.setCell ?_ (by first | omega | (simp; done) | (simp; omega) | (simp at *; omega)) _ | refine Bel.trans ?_ (by assumption)))) hlit.out (Nat.le_refl _) hgr4; have hB4 := hbw3.trans hB34; have hcap4 := ownsRow_cap hown4)
              | (refine step_appZ rfl (.tmp 28) (.tmp 32) rfl ⟨g4, 0, none⟩ k cap4 _ _ _ HZ.out hcap4 (by rfl) (by rfl) ?_))
          all_goals
            have HFIN := Lib.hid (HO.out.pick (M := L.eraseIdx k) hB34 hown4 (fun j _ => by have := HWC.out j; rw [HDR.out, List.append_nil] at this; exact this))
            have HLN := Lib.hid (show k = (L.eraseIdx k).length by rw [HEL.out]; have := HKN.out; omega)
            clear hown4 hgr4 hat4 hlt4
            go_wp2
            go_ret2
            exact ⟨_, _, _, by simp; rfl, HLN.out, by (repeat (first | exact Bel.refl _ | assumption | refine Bel.drew ?_ | refine Bel.drewN ?_ _ | refine Bel.alloc ?_ _ | refine Bel.setCell ?_ (by first | omega | (simp; done) | (simp; omega) | (simp at *; omega)) _ | refine Bel.trans ?_ (by assumption))), HFIN.out.bel (by (repeat (first | exact Bel.refl _ | assumption | refine Bel.drew ?_ | refine Bel.drewN ?_ _ | refine Bel.alloc ?_ _ | refine Bel.setCell ?_ (by first | omega | (simp; done) | (simp; omega) | (simp at *; omega)) _ | refine Bel.trans ?_ (by assumption))))⟩
      · have hr0 : 0 < n - (k + 1) := by omega
        have hk3 : (k : Int) + 1 < (n : Int) := by omega
        have hk4 : (k : Int) + 1 ≤ (n : Int) := by omega
        have hk5 : (k : Int) + 1 < (c0 : Int) := by omega
        have hk6 : k + 1 < c0 := by omega
        clear hkn
        go_wp2
        go_region_held_law (fun w' => Bel w w') (first | exact hB5 | exact hB4 | exact (by (repeat (first | exact Bel.refl _ | assumption | refine Bel.drew ?_ | refine Bel.drewN ?_ _ | refine Bel.alloc ?_ _ | refine Bel.setCell ?_ (by first | omega | (simp; done) | (simp; omega) | (simp at *; omega)) _ | refine Bel.trans ?_ (by assumption)))))
          (first
            | (refine step_append_lies _ rfl (.tmp 24) (.tmp 27) 22 rfl w3.heap.size 25 i0 _ 2 32 Try.underlying22 hi hz0 hz1 hz2 rfl (by decide) _ 0 [] (by rfl) (ownsRow_bel hlit.out (by (repeat (first | exact Bel.refl _ | assumption | refine Bel.drew ?_ | refine Bel.drewN ?_ _ | refine Bel.alloc ?_ _ | refine Bel.setCell ?_ (by first | omega | (simp; done) | (simp; omega) | (simp at *; omega)) _ | refine Bel.trans ?_ (by assumption))))) ⟨g0, 0, none⟩ k c0 (vs.take (k * 2)) (by rfl) (by rw [List.length_take, HVL.out]; omega) (takes hcells.out (by (repeat (first | exact Bel.refl _ | assumption | refine Bel.drew ?_ | refine Bel.drewN ?_ _ | refine Bel.alloc ?_ _ | refine Bel.setCell ?_ (by first | omega | (simp; done) | (simp; omega) | (simp at *; omega)) _ | refine Bel.trans ?_ (by assumption)))) _) (fun u hu => HON.out u (List.mem_of_mem_take hu)) hkp hX1.out hX2.out (by simp) _ rfl ?_; intro g4 cap4 w4; rw [show 0 + k = k from Nat.zero_add k, List.nil_append]; intro hown4 hgr4 hat4 hlt4; have hB34 := grown_own (w := w3) (by (repeat (first | exact Bel.refl _ | assumption | refine Bel.drew ?_ | refine Bel.drewN ?_ _ | refine Bel.alloc ?_ _ | refine Bel.setCell ?_ (by first | omega | (simp; done) | (simp; omega) | (simp at *; omega)) _ | refine Bel.trans ?_ (by assumption)))) hlit.out (Nat.le_refl _) hgr4; have hB4 := hbw3.trans hB34; have hcap4 := ownsRow_cap hown4)
            | (refine step_append_lies _ rfl (.tmp 28) (.tmp 32) 22 rfl w3.heap.size 25 i0 _ 2 32 Try.underlying22 hi hz0 hz1 hz2 rfl (by decide) _ k (vs.take (k * 2)) (by rfl) (ownsRow_bel hown4 (by (repeat (first | exact Bel.refl _ | assumption | refine Bel.drew ?_ | refine Bel.drewN ?_ _ | refine Bel.alloc ?_ _ | refine Bel.setCell ?_ (by first | omega | (simp; done) | (simp; omega) | (simp at *; omega)) _ | refine Bel.trans ?_ (by assumption))))) ⟨g0, (k + 1) * 2, none⟩ (n - (k + 1)) (c0 - (k + 1)) (vs.drop ((k + 1) * 2)) (by rfl) (by rw [List.length_drop, HVL.out]; omega) (drops hcells.out (hB34.trans (by (repeat (first | exact Bel.refl _ | assumption | refine Bel.drew ?_ | refine Bel.drewN ?_ _ | refine Bel.alloc ?_ _ | refine Bel.setCell ?_ (by first | omega | (simp; done) | (simp; omega) | (simp at *; omega)) _ | refine Bel.trans ?_ (by assumption))))) _) (fun u hu => HON.out u (List.mem_of_mem_drop hu)) hr0 hX3.out hX4.out (by have := hB34.size; simp; omega) _ rfl ?_; intro g5 cap5 w5 hown5 hgr5 hat5 hlt5; have hB35 := grown_own (w := w3) (hB34.trans (by (repeat (first | exact Bel.refl _ | assumption | refine Bel.drew ?_ | refine Bel.drewN ?_ _ | refine Bel.alloc ?_ _ | refine Bel.setCell ?_ (by first | omega | (simp; done) | (simp; omega) | (simp at *; omega)) _ | refine Bel.trans ?_ (by assumption))))) hown4 (Nat.le_refl _) hgr5; have hB5 := hbw3.trans hB35))
        all_goals
          have HFIN := Lib.hid (HO.out.pick (M := L.eraseIdx k) hB35 hown5 (fun j _ => HWC.out j))
          have HLN := Lib.hid (show k + (n - (k + 1)) = (L.eraseIdx k).length by rw [HEL.out]; omega)
          clear hown5 hgr5 hat5 hlt5 hown4 hgr4 hat4 hlt4
          go_wp2
          go_ret2
          exact ⟨_, _, _, by simp; rfl, HLN.out, by (repeat (first | exact Bel.refl _ | assumption | refine Bel.drew ?_ | refine Bel.drewN ?_ _ | refine Bel.alloc ?_ _ | refine Bel.setCell ?_ (by first | omega | (simp; done) | (simp; omega) | (simp at *; omega)) _ | refine Bel.trans ?_ (by assumption))), HFIN.out.bel (by (repeat (first | exact Bel.refl _ | assumption | refine Bel.drew ?_ | refine Bel.drewN ?_ _ | refine Bel.alloc ?_ _ | refine Bel.setCell ?_ (by first | omega | (simp; done) | (simp; omega) | (simp at *; omega)) _ | refine Bel.trans ?_ (by assumption))))⟩
end Go.Proofs.Ytjcompmmjcefhaa
