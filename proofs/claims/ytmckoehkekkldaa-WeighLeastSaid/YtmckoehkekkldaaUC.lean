/- The document's search, a step. -/
import Derived.Test.YtmckoehkekkldaaUB
namespace Go.Proofs.Ytmckoehkekkldaa
open Go.RowKit

set_option maxRecDepth 100000 in
set_option maxHeartbeats 4000000 in
theorem some_step (m : M3) (l : List M3) (ih : SomeOK l) (b o n c k : Nat) (x y z : Int) (w : World) (hR : Mks w (some ⟨b, o, none⟩) (m :: l)) (hn : l.length = n) (hc : n + 1 ≤ c) (h27 : n + 1 ≤ 27) (hk : k + 1 ≤ n + 1)
    (hx : (-100 + ((n + 1 : Nat) : Int) ≤ x ∧ x ≤ 100 - ((n + 1 : Nat) : Int))) (hy : (-100 + ((n + 1 : Nat) : Int) ≤ y ∧ y ≤ 100 - ((n + 1 : Nat) : Int))) (hz : (-100 + ((n + 1 : Nat) : Int) ≤ z ∧ z ≤ 100 - ((n + 1 : Nat) : Int)))
    (hb : ∀ p ∈ m :: l, (-1 ≤ p.1 ∧ p.1 ≤ 1) ∧ (-1 ≤ p.2.1 ∧ p.2.1 ≤ 1) ∧ (-1 ≤ p.2.2 ∧ p.2.2 ≤ 1)) :
    Calls Try.prog 99 #[.slice (some ⟨b, o, none⟩) (n + 1) c, .int .i64 ((k + 1 : Nat) : Int), W3 x y z] w fun e w' => e = .returned (.bool (someL (m :: l) (k + 1) x y z)) ∧ Bel w w' := by
  have hR0 := hR
  have hb0 := hb m (List.mem_cons_self)
  obtain ⟨m1, m2, m3⟩ := m
  obtain ⟨⟨a1, a2⟩, ⟨a3, a4⟩, ⟨a5, a6⟩⟩ := hb _ (List.mem_cons_self)
  simp only at a1 a2 a3 a4 a5 a6
  have HB : Hid (∀ p ∈ l, (-1 ≤ p.1 ∧ p.1 ≤ 1) ∧ (-1 ≤ p.2.1 ∧ p.2.1 ≤ 1) ∧ (-1 ≤ p.2.2 ∧ p.2.2 ≤ 1)) := fun p hp => hb p (List.mem_cons_of_mem _ hp)
  have HS : Hid (someL ((m1, m2, m3) :: l) (k + 1) x y z = (someL l k (x - m1) (y - m2) (z - m3) || (someL l k (x + m1) (y + m2) (z + m3) || someL l (k + 1) x y z))) := by
    show _ = _
    rw [someL, if_neg (by omega)]
  have hT := hR.tail
  obtain ⟨hbl, c0, c1, c2⟩ : b < w.heap.size ∧ w.cell? ⟨b, o, none⟩ = some (.int .i64 m1) ∧ w.cell? ⟨b, o + 1, none⟩ = some (.int .i64 m2) ∧ w.cell? ⟨b, o + 2, none⟩ = some (.int .i64 m3) := by
    rcases hR with h | ⟨b', o', hA, hl, hcc⟩
    · cases h
    · obtain ⟨rfl, rfl⟩ : b = b' ∧ o = o' := by simpa using hA
      have := hcc 0 m1 m2 m3 rfl
      rw [Nat.zero_mul, Nat.add_zero] at this
      exact ⟨hl, this⟩
  have hk0 : ¬ (k : Int) + 1 = 0 := by omega
  have hkn : ¬ (k : Int) > (n : Int) := by omega
  have Hn := Lib.hid hn
  have hT0 : Hid (∀ w', Bel w w' → Mks w' (some ⟨b, o + 3, none⟩) l) := fun w' h => hT.bel h
  clear hb hn hR hT
  obtain ⟨x1, x2⟩ := hx; obtain ⟨y1, y2⟩ := hy; obtain ⟨z1, z2⟩ := hz
  have Held : Hid (∀ w', Bel ((((w.alloc (.cells #[.int .i64 x, .int .i64 y, .int .i64 z] 77)).alloc (.cells #[.int .i64 m1, .int .i64 m2, .int .i64 m3] 77)).alloc (.cells #[.int .i64 (x - m1), .int .i64 (y - m2), .int .i64 (z - m3)] 77)).alloc (.cells #[.int .i64 (x + m1), .int .i64 (y + m2), .int .i64 (z + m3)] 77)) w' → HU w.heap.size x y z m1 m2 m3 w') := fun w' h => by
    obtain ⟨a1, a2, a3⟩ := box3 h
    simp only [World.size_alloc] at a1 a2 a3
    obtain ⟨b1, b2, b3⟩ := box3 (w0 := w) (((((Bel.refl _).alloc _).alloc _).alloc _).trans h)
    obtain ⟨d1, d2, d3⟩ := box3 (w0 := (w.alloc (.cells #[.int .i64 x, .int .i64 y, .int .i64 z] 77)).alloc (.cells #[.int .i64 m1, .int .i64 m2, .int .i64 m3] 77)) (((Bel.refl _).alloc _).trans h)
    simp only [World.size_alloc] at d1 d2 d3
    exact ⟨⟨b1, b2, b3⟩, ⟨d1, d2, d3⟩, a1, a2, a3⟩
  have hlt1 : ¬ (n : Int) + 1 < 1 := by omega
  have WK : IntKind.i64.wrap (k : Int) = (k : Int) := IntWalk.i64_in _ (by omega)
  have HC1 := Lib.hid (show n ≤ c - 1 by omega); have HC2 := Lib.hid (show n ≤ 27 by omega); have HK1 := Lib.hid (show k ≤ 50 by omega); have HK2 := Lib.hid (show k + 1 ≤ 50 by omega)
  have HL1 := Lib.hid (show -100 + (n : Int) ≤ x - m1 ∧ x - m1 ≤ 100 - (n : Int) by omega); have HL2 := Lib.hid (show -100 + (n : Int) ≤ y - m2 ∧ y - m2 ≤ 100 - (n : Int) by omega); have HL3 := Lib.hid (show -100 + (n : Int) ≤ z - m3 ∧ z - m3 ≤ 100 - (n : Int) by omega)
  have HM1 := Lib.hid (show -100 + (n : Int) ≤ x + m1 ∧ x + m1 ≤ 100 - (n : Int) by omega); have HM2 := Lib.hid (show -100 + (n : Int) ≤ y + m2 ∧ y + m2 ≤ 100 - (n : Int) by omega); have HM3 := Lib.hid (show -100 + (n : Int) ≤ z + m3 ∧ z + m3 ≤ 100 - (n : Int) by omega)
  have HN1 := Lib.hid (show -100 + (n : Int) ≤ x ∧ x ≤ 100 - (n : Int) by omega); have HN2 := Lib.hid (show -100 + (n : Int) ≤ y ∧ y ≤ 100 - (n : Int) by omega); have HN3 := Lib.hid (show -100 + (n : Int) ≤ z ∧ z ≤ 100 - (n : Int) by omega)
  by_cases hc1 : c = 1
  · subst hc1
    obtain rfl : n = 0 := by omega
    obtain rfl : k = 0 := by omega
    have hl0 : l = [] := List.eq_nil_of_length_eq_zero Hn.out
    subst hl0
    exact some_one _ b o x y z w hR0 ⟨by omega, by omega⟩ ⟨by omega, by omega⟩ ⟨by omega, by omega⟩ hb0
  · cases r1 : someL l k (x - m1) (y - m2) (z - m3)
    · cases r2 : someL l k (x + m1) (y + m2) (z + m3)
      · rw [r1, r2, Bool.false_or, Bool.false_or] at HS
        have R1 := Lib.hid r1; have R2 := Lib.hid r2
        clear r1 r2
        go_enter Try.func99, Try.ntmps99
        go_wp2_with fail
        refine wp_region_held_drew (S := HU w.heap.size x y z m1 m2 m3) (by kernel_rfl) (Held.out _ (by (repeat (first | exact Bel.refl _ | assumption | refine Bel.drew ?_ | refine Bel.drewN ?_ _ | refine Bel.alloc ?_ _ | refine Bel.setCell ?_ (by first | omega | (simp; done) | (simp; omega) | (simp at *; omega)) _ | refine Bel.trans ?_ (by assumption))))) (fun hS => ?_)
        refine wpAnyH_take (i := 0) (oi := ⟨some 54, _, _, _, _, _⟩) (v := (.slice (some ⟨b, o, none⟩) (n + 1) c)) rfl (by kernel_rfl) (by kernel_rfl) (by kernel_rfl) (fun _ _ _ h => h) (Or.inl ⟨by kernel_rfl, fun w hS => by obtain ⟨⟨s1, s2, s3⟩, ⟨s4, s5, s6⟩, s7, s8, s9⟩ := hS; go_simp⟩) hS ?_
        simp only [Act.put]
        refine wpAnyH_take (i := 1) (oi := ⟨some 55, _, _, _, _, _⟩) (v := (.slice (some ⟨b, o + 3, none⟩) n (c - 1))) rfl (by kernel_rfl) (by kernel_rfl) (by kernel_rfl) (fun _ _ _ h => h) (Or.inl ⟨by kernel_rfl, fun w hS => by obtain ⟨⟨s1, s2, s3⟩, ⟨s4, s5, s6⟩, s7, s8, s9⟩ := hS; go_simp⟩) hS ?_
        simp only [Act.put]
        refine wpAnyH_take (i := 2) (oi := ⟨some 56, _, _, _, _, _⟩) (v := (.int .i64 ((k : Int) + 1))) rfl (by kernel_rfl) (by kernel_rfl) (by kernel_rfl) (fun _ _ _ h => h) (Or.inl ⟨by kernel_rfl, fun w hS => by obtain ⟨⟨s1, s2, s3⟩, ⟨s4, s5, s6⟩, s7, s8, s9⟩ := hS; go_simp⟩) hS ?_
        simp only [Act.put]
        refine wpAnyH_take (i := 3) (oi := ⟨some 57, _, _, _, _, _⟩) (v := (.int .i64 (k : Int))) rfl (by kernel_rfl) (by kernel_rfl) (by kernel_rfl) (fun _ _ _ h => h) (Or.inl ⟨by kernel_rfl, fun w hS => by obtain ⟨⟨s1, s2, s3⟩, ⟨s4, s5, s6⟩, s7, s8, s9⟩ := hS; go_simp⟩) hS ?_
        simp only [Act.put]
        refine wpAnyH_take (i := 4) (oi := ⟨some 58, _, _, _, _, _⟩) (v := (W3 (x - m1) (y - m2) (z - m3))) rfl (by kernel_rfl) (by kernel_rfl) (by kernel_rfl) (fun _ _ _ h => h) (Or.inl ⟨by kernel_rfl, fun w hS => by obtain ⟨⟨s1, s2, s3⟩, ⟨s4, s5, s6⟩, s7, s8, s9⟩ := hS; go_simp⟩) hS ?_
        simp only [Act.put]
        refine wpAnyH_ready (rs := [5]) (by kernel_rfl) (by simp) (AllReadyH.cons rfl (fun K hK => ?_) AllReadyH.nil)
        go_simp
        refine (ih (some ⟨b, o + 3, none⟩) n (c - 1) k (x - m1) (y - m2) (z - m3) _ (hT0.out _ (by (repeat (first | exact Bel.refl _ | assumption | refine Bel.drew ?_ | refine Bel.drewN ?_ _ | refine Bel.alloc ?_ _ | refine Bel.setCell ?_ (by first | omega | (simp; done) | (simp; omega) | (simp at *; omega)) _ | refine Bel.trans ?_ (by assumption))))) Hn.out HC1.out HC2.out HK1.out HL1.out HL2.out HL3.out HB.out).mono ?_
        rintro e w1 ⟨rfl, hb1⟩
        rw [R1.out]
        refine hK.out _ _ (HU.bel hS hb1) (fun hS2 => ?_)
        clear hK K
        try simp only [Act.put]
        refine wpAnyH_take (i := 6) (oi := ⟨some 60, _, _, _, _, _⟩) (v := (.bool false)) rfl (by kernel_rfl) (by kernel_rfl) (by kernel_rfl) (fun _ _ _ h => h) (Or.inl ⟨by kernel_rfl, fun w hS => by obtain ⟨⟨s1, s2, s3⟩, ⟨s4, s5, s6⟩, s7, s8, s9⟩ := hS; go_simp⟩) hS2 ?_
        simp only [Act.put]
        refine wpAnyH_take (i := 7) (oi := ⟨some 61, _, _, _, _, _⟩) (v := (.slice (some ⟨b, o, none⟩) (n + 1) c)) rfl (by kernel_rfl) (by kernel_rfl) (by kernel_rfl) (fun _ _ _ h => h) (Or.inl ⟨by kernel_rfl, fun w hS => by obtain ⟨⟨s1, s2, s3⟩, ⟨s4, s5, s6⟩, s7, s8, s9⟩ := hS; go_simp⟩) hS2 ?_
        simp only [Act.put]
        refine wpAnyH_take (i := 8) (oi := ⟨some 62, _, _, _, _, _⟩) (v := (.slice (some ⟨b, o + 3, none⟩) n (c - 1))) rfl (by kernel_rfl) (by kernel_rfl) (by kernel_rfl) (fun _ _ _ h => h) (Or.inl ⟨by kernel_rfl, fun w hS => by obtain ⟨⟨s1, s2, s3⟩, ⟨s4, s5, s6⟩, s7, s8, s9⟩ := hS; go_simp⟩) hS2 ?_
        simp only [Act.put]
        refine wpAnyH_take (i := 9) (oi := ⟨some 63, _, _, _, _, _⟩) (v := (.int .i64 ((k : Int) + 1))) rfl (by kernel_rfl) (by kernel_rfl) (by kernel_rfl) (fun _ _ _ h => h) (Or.inl ⟨by kernel_rfl, fun w hS => by obtain ⟨⟨s1, s2, s3⟩, ⟨s4, s5, s6⟩, s7, s8, s9⟩ := hS; go_simp⟩) hS2 ?_
        simp only [Act.put]
        refine wpAnyH_take (i := 10) (oi := ⟨some 64, _, _, _, _, _⟩) (v := (.int .i64 (k : Int))) rfl (by kernel_rfl) (by kernel_rfl) (by kernel_rfl) (fun _ _ _ h => h) (Or.inl ⟨by kernel_rfl, fun w hS => by obtain ⟨⟨s1, s2, s3⟩, ⟨s4, s5, s6⟩, s7, s8, s9⟩ := hS; go_simp⟩) hS2 ?_
        simp only [Act.put]
        refine wpAnyH_take (i := 11) (oi := ⟨some 65, _, _, _, _, _⟩) (v := (W3 (x + m1) (y + m2) (z + m3))) rfl (by kernel_rfl) (by kernel_rfl) (by kernel_rfl) (fun _ _ _ h => h) (Or.inl ⟨by kernel_rfl, fun w hS => by obtain ⟨⟨s1, s2, s3⟩, ⟨s4, s5, s6⟩, s7, s8, s9⟩ := hS; go_simp⟩) hS2 ?_
        simp only [Act.put]
        refine wpAnyH_ready (rs := [12]) (by kernel_rfl) (by simp) (AllReadyH.cons rfl (fun K hK => ?_) AllReadyH.nil)
        go_simp
        refine (ih (some ⟨b, o + 3, none⟩) n (c - 1) k (x + m1) (y + m2) (z + m3) _ (hT0.out _ (by (repeat (first | exact Bel.refl _ | assumption | refine Bel.drew ?_ | refine Bel.drewN ?_ _ | refine Bel.alloc ?_ _ | refine Bel.setCell ?_ (by first | omega | (simp; done) | (simp; omega) | (simp at *; omega)) _ | refine Bel.trans ?_ (by assumption))))) Hn.out HC1.out HC2.out HK1.out HM1.out HM2.out HM3.out HB.out).mono ?_
        rintro e w2 ⟨rfl, hb2⟩
        rw [R2.out]
        refine hK.out _ _ (HU.bel hS2 hb2) (fun hS3 => ?_)
        clear hK K
        try simp only [Act.put]
        refine wpAnyH_take (i := 13) (oi := ⟨some 67, _, _, _, _, _⟩) (v := (.bool false)) rfl (by kernel_rfl) (by kernel_rfl) (by kernel_rfl) (fun _ _ _ h => h) (Or.inl ⟨by kernel_rfl, fun w hS => by obtain ⟨⟨s1, s2, s3⟩, ⟨s4, s5, s6⟩, s7, s8, s9⟩ := hS; go_simp⟩) hS3 ?_
        simp only [Act.put]
        refine wpAnyH_take (i := 14) (oi := ⟨some 68, _, _, _, _, _⟩) (v := (.bool false)) rfl (by kernel_rfl) (by kernel_rfl) (by kernel_rfl) (fun _ _ _ h => h) (Or.inl ⟨by kernel_rfl, fun w hS => by obtain ⟨⟨s1, s2, s3⟩, ⟨s4, s5, s6⟩, s7, s8, s9⟩ := hS; go_simp⟩) hS3 ?_
        simp only [Act.put]
        refine wpAnyH_take (i := 15) (oi := ⟨some 69, _, _, _, _, _⟩) (v := (.slice (some ⟨b, o, none⟩) (n + 1) c)) rfl (by kernel_rfl) (by kernel_rfl) (by kernel_rfl) (fun _ _ _ h => h) (Or.inl ⟨by kernel_rfl, fun w hS => by obtain ⟨⟨s1, s2, s3⟩, ⟨s4, s5, s6⟩, s7, s8, s9⟩ := hS; go_simp⟩) hS3 ?_
        simp only [Act.put]
        refine wpAnyH_take (i := 16) (oi := ⟨some 70, _, _, _, _, _⟩) (v := (.slice (some ⟨b, o + 3, none⟩) n (c - 1))) rfl (by kernel_rfl) (by kernel_rfl) (by kernel_rfl) (fun _ _ _ h => h) (Or.inl ⟨by kernel_rfl, fun w hS => by obtain ⟨⟨s1, s2, s3⟩, ⟨s4, s5, s6⟩, s7, s8, s9⟩ := hS; go_simp⟩) hS3 ?_
        simp only [Act.put]
        refine wpAnyH_take (i := 17) (oi := ⟨some 71, _, _, _, _, _⟩) (v := (.int .i64 ((k : Int) + 1))) rfl (by kernel_rfl) (by kernel_rfl) (by kernel_rfl) (fun _ _ _ h => h) (Or.inl ⟨by kernel_rfl, fun w hS => by obtain ⟨⟨s1, s2, s3⟩, ⟨s4, s5, s6⟩, s7, s8, s9⟩ := hS; go_simp⟩) hS3 ?_
        simp only [Act.put]
        refine wpAnyH_take (i := 18) (oi := ⟨some 72, _, _, _, _, _⟩) (v := (W3 x y z)) rfl (by kernel_rfl) (by kernel_rfl) (by kernel_rfl) (fun _ _ _ h => h) (Or.inl ⟨by kernel_rfl, fun w hS => by obtain ⟨⟨s1, s2, s3⟩, ⟨s4, s5, s6⟩, s7, s8, s9⟩ := hS; go_simp⟩) hS3 ?_
        simp only [Act.put]
        refine wpAnyH_ready (rs := [19]) (by kernel_rfl) (by simp) (AllReadyH.cons rfl (fun K hK => ?_) AllReadyH.nil)
        go_simp
        refine (ih (some ⟨b, o + 3, none⟩) n (c - 1) (k + 1) x y z _ (hT0.out _ (by (repeat (first | exact Bel.refl _ | assumption | refine Bel.drew ?_ | refine Bel.drewN ?_ _ | refine Bel.alloc ?_ _ | refine Bel.setCell ?_ (by first | omega | (simp; done) | (simp; omega) | (simp at *; omega)) _ | refine Bel.trans ?_ (by assumption))))) Hn.out HC1.out HC2.out HK2.out HN1.out HN2.out HN3.out HB.out).mono ?_
        rintro e w3 ⟨rfl, hb3⟩
        refine hK.out _ _ (HU.bel hS3 hb3) (fun hS4 => ?_)
        clear hK K
        try simp only [Act.put]
        refine wpAnyH_take (i := 20) (oi := ⟨some 74, _, _, _, _, _⟩) (v := (.bool (someL l (k + 1) x y z))) rfl (by kernel_rfl) (by kernel_rfl) (by kernel_rfl) (fun _ _ _ h => h) (Or.inl ⟨by kernel_rfl, fun w hS => by obtain ⟨⟨s1, s2, s3⟩, ⟨s4, s5, s6⟩, s7, s8, s9⟩ := hS; go_simp⟩) hS4 ?_
        simp only [Act.put]
        refine wpAnyH_take (i := 21) (oi := ⟨some 6, _, _, _, _, _⟩) (v := (.bool (someL l (k + 1) x y z))) rfl (by kernel_rfl) (by kernel_rfl) (by kernel_rfl) (fun _ _ _ h => h) (Or.inl ⟨by kernel_rfl, fun w hS => by obtain ⟨⟨s1, s2, s3⟩, ⟨s4, s5, s6⟩, s7, s8, s9⟩ := hS; go_simp⟩) hS4 ?_
        simp only [Act.put]
        refine wpAnyH_done (by kernel_rfl) ?_ _
        have HBB := Lib.hid (show Bel w w3 by (repeat (first | exact Bel.refl _ | assumption | refine Bel.drew ?_ | refine Bel.drewN ?_ _ | refine Bel.alloc ?_ _ | refine Bel.setCell ?_ (by first | omega | (simp; done) | (simp; omega) | (simp at *; omega)) _ | refine Bel.trans ?_ (by assumption))))
        simp only [List.setIfInBounds_toArray, List.set_cons_zero, List.set_cons_succ]
        go_wp2
        go_ret
        exact ⟨ret_bool HS.out.symm, HBB.out⟩
      · rw [r1, r2, Bool.false_or, Bool.true_or] at HS
        have R1 := Lib.hid r1; have R2 := Lib.hid r2
        clear r1 r2
        go_enter Try.func99, Try.ntmps99
        go_wp2_with fail
        refine wp_region_held_drew (S := HU w.heap.size x y z m1 m2 m3) (by kernel_rfl) (Held.out _ (by (repeat (first | exact Bel.refl _ | assumption | refine Bel.drew ?_ | refine Bel.drewN ?_ _ | refine Bel.alloc ?_ _ | refine Bel.setCell ?_ (by first | omega | (simp; done) | (simp; omega) | (simp at *; omega)) _ | refine Bel.trans ?_ (by assumption))))) (fun hS => ?_)
        refine wpAnyH_take (i := 0) (oi := ⟨some 54, _, _, _, _, _⟩) (v := (.slice (some ⟨b, o, none⟩) (n + 1) c)) rfl (by kernel_rfl) (by kernel_rfl) (by kernel_rfl) (fun _ _ _ h => h) (Or.inl ⟨by kernel_rfl, fun w hS => by obtain ⟨⟨s1, s2, s3⟩, ⟨s4, s5, s6⟩, s7, s8, s9⟩ := hS; go_simp⟩) hS ?_
        simp only [Act.put]
        refine wpAnyH_take (i := 1) (oi := ⟨some 55, _, _, _, _, _⟩) (v := (.slice (some ⟨b, o + 3, none⟩) n (c - 1))) rfl (by kernel_rfl) (by kernel_rfl) (by kernel_rfl) (fun _ _ _ h => h) (Or.inl ⟨by kernel_rfl, fun w hS => by obtain ⟨⟨s1, s2, s3⟩, ⟨s4, s5, s6⟩, s7, s8, s9⟩ := hS; go_simp⟩) hS ?_
        simp only [Act.put]
        refine wpAnyH_take (i := 2) (oi := ⟨some 56, _, _, _, _, _⟩) (v := (.int .i64 ((k : Int) + 1))) rfl (by kernel_rfl) (by kernel_rfl) (by kernel_rfl) (fun _ _ _ h => h) (Or.inl ⟨by kernel_rfl, fun w hS => by obtain ⟨⟨s1, s2, s3⟩, ⟨s4, s5, s6⟩, s7, s8, s9⟩ := hS; go_simp⟩) hS ?_
        simp only [Act.put]
        refine wpAnyH_take (i := 3) (oi := ⟨some 57, _, _, _, _, _⟩) (v := (.int .i64 (k : Int))) rfl (by kernel_rfl) (by kernel_rfl) (by kernel_rfl) (fun _ _ _ h => h) (Or.inl ⟨by kernel_rfl, fun w hS => by obtain ⟨⟨s1, s2, s3⟩, ⟨s4, s5, s6⟩, s7, s8, s9⟩ := hS; go_simp⟩) hS ?_
        simp only [Act.put]
        refine wpAnyH_take (i := 4) (oi := ⟨some 58, _, _, _, _, _⟩) (v := (W3 (x - m1) (y - m2) (z - m3))) rfl (by kernel_rfl) (by kernel_rfl) (by kernel_rfl) (fun _ _ _ h => h) (Or.inl ⟨by kernel_rfl, fun w hS => by obtain ⟨⟨s1, s2, s3⟩, ⟨s4, s5, s6⟩, s7, s8, s9⟩ := hS; go_simp⟩) hS ?_
        simp only [Act.put]
        refine wpAnyH_ready (rs := [5]) (by kernel_rfl) (by simp) (AllReadyH.cons rfl (fun K hK => ?_) AllReadyH.nil)
        go_simp
        refine (ih (some ⟨b, o + 3, none⟩) n (c - 1) k (x - m1) (y - m2) (z - m3) _ (hT0.out _ (by (repeat (first | exact Bel.refl _ | assumption | refine Bel.drew ?_ | refine Bel.drewN ?_ _ | refine Bel.alloc ?_ _ | refine Bel.setCell ?_ (by first | omega | (simp; done) | (simp; omega) | (simp at *; omega)) _ | refine Bel.trans ?_ (by assumption))))) Hn.out HC1.out HC2.out HK1.out HL1.out HL2.out HL3.out HB.out).mono ?_
        rintro e w1 ⟨rfl, hb1⟩
        rw [R1.out]
        refine hK.out _ _ (HU.bel hS hb1) (fun hS2 => ?_)
        clear hK K
        try simp only [Act.put]
        refine wpAnyH_take (i := 6) (oi := ⟨some 60, _, _, _, _, _⟩) (v := (.bool false)) rfl (by kernel_rfl) (by kernel_rfl) (by kernel_rfl) (fun _ _ _ h => h) (Or.inl ⟨by kernel_rfl, fun w hS => by obtain ⟨⟨s1, s2, s3⟩, ⟨s4, s5, s6⟩, s7, s8, s9⟩ := hS; go_simp⟩) hS2 ?_
        simp only [Act.put]
        refine wpAnyH_take (i := 7) (oi := ⟨some 61, _, _, _, _, _⟩) (v := (.slice (some ⟨b, o, none⟩) (n + 1) c)) rfl (by kernel_rfl) (by kernel_rfl) (by kernel_rfl) (fun _ _ _ h => h) (Or.inl ⟨by kernel_rfl, fun w hS => by obtain ⟨⟨s1, s2, s3⟩, ⟨s4, s5, s6⟩, s7, s8, s9⟩ := hS; go_simp⟩) hS2 ?_
        simp only [Act.put]
        refine wpAnyH_take (i := 8) (oi := ⟨some 62, _, _, _, _, _⟩) (v := (.slice (some ⟨b, o + 3, none⟩) n (c - 1))) rfl (by kernel_rfl) (by kernel_rfl) (by kernel_rfl) (fun _ _ _ h => h) (Or.inl ⟨by kernel_rfl, fun w hS => by obtain ⟨⟨s1, s2, s3⟩, ⟨s4, s5, s6⟩, s7, s8, s9⟩ := hS; go_simp⟩) hS2 ?_
        simp only [Act.put]
        refine wpAnyH_take (i := 9) (oi := ⟨some 63, _, _, _, _, _⟩) (v := (.int .i64 ((k : Int) + 1))) rfl (by kernel_rfl) (by kernel_rfl) (by kernel_rfl) (fun _ _ _ h => h) (Or.inl ⟨by kernel_rfl, fun w hS => by obtain ⟨⟨s1, s2, s3⟩, ⟨s4, s5, s6⟩, s7, s8, s9⟩ := hS; go_simp⟩) hS2 ?_
        simp only [Act.put]
        refine wpAnyH_take (i := 10) (oi := ⟨some 64, _, _, _, _, _⟩) (v := (.int .i64 (k : Int))) rfl (by kernel_rfl) (by kernel_rfl) (by kernel_rfl) (fun _ _ _ h => h) (Or.inl ⟨by kernel_rfl, fun w hS => by obtain ⟨⟨s1, s2, s3⟩, ⟨s4, s5, s6⟩, s7, s8, s9⟩ := hS; go_simp⟩) hS2 ?_
        simp only [Act.put]
        refine wpAnyH_take (i := 11) (oi := ⟨some 65, _, _, _, _, _⟩) (v := (W3 (x + m1) (y + m2) (z + m3))) rfl (by kernel_rfl) (by kernel_rfl) (by kernel_rfl) (fun _ _ _ h => h) (Or.inl ⟨by kernel_rfl, fun w hS => by obtain ⟨⟨s1, s2, s3⟩, ⟨s4, s5, s6⟩, s7, s8, s9⟩ := hS; go_simp⟩) hS2 ?_
        simp only [Act.put]
        refine wpAnyH_ready (rs := [12]) (by kernel_rfl) (by simp) (AllReadyH.cons rfl (fun K hK => ?_) AllReadyH.nil)
        go_simp
        refine (ih (some ⟨b, o + 3, none⟩) n (c - 1) k (x + m1) (y + m2) (z + m3) _ (hT0.out _ (by (repeat (first | exact Bel.refl _ | assumption | refine Bel.drew ?_ | refine Bel.drewN ?_ _ | refine Bel.alloc ?_ _ | refine Bel.setCell ?_ (by first | omega | (simp; done) | (simp; omega) | (simp at *; omega)) _ | refine Bel.trans ?_ (by assumption))))) Hn.out HC1.out HC2.out HK1.out HM1.out HM2.out HM3.out HB.out).mono ?_
        rintro e w2 ⟨rfl, hb2⟩
        rw [R2.out]
        refine hK.out _ _ (HU.bel hS2 hb2) (fun hS3 => ?_)
        clear hK K
        try simp only [Act.put]
        refine wpAnyH_take (i := 13) (oi := ⟨some 67, _, _, _, _, _⟩) (v := (.bool true)) rfl (by kernel_rfl) (by kernel_rfl) (by kernel_rfl) (fun _ _ _ h => h) (Or.inl ⟨by kernel_rfl, fun w hS => by obtain ⟨⟨s1, s2, s3⟩, ⟨s4, s5, s6⟩, s7, s8, s9⟩ := hS; go_simp⟩) hS3 ?_
        simp only [Act.put]
        refine wpAnyH_take (i := 14) (oi := ⟨some 68, _, _, _, _, _⟩) (v := (.bool true)) rfl (by kernel_rfl) (by kernel_rfl) (by kernel_rfl) (fun _ _ _ h => h) (Or.inl ⟨by kernel_rfl, fun w hS => by obtain ⟨⟨s1, s2, s3⟩, ⟨s4, s5, s6⟩, s7, s8, s9⟩ := hS; go_simp⟩) hS3 ?_
        simp only [Act.put]
        refine wpAnyH_take (i := 15) (oi := ⟨some 69, _, _, _, _, _⟩) (v := undef) rfl (by kernel_rfl) (by kernel_rfl) (by kernel_rfl) (fun _ _ _ h => h) (Or.inr ⟨by kernel_rfl, rfl⟩) hS3 ?_
        simp only [Act.put]
        refine wpAnyH_take (i := 16) (oi := ⟨some 70, _, _, _, _, _⟩) (v := undef) rfl (by kernel_rfl) (by kernel_rfl) (by kernel_rfl) (fun _ _ _ h => h) (Or.inr ⟨by kernel_rfl, rfl⟩) hS3 ?_
        simp only [Act.put]
        refine wpAnyH_take (i := 17) (oi := ⟨some 71, _, _, _, _, _⟩) (v := undef) rfl (by kernel_rfl) (by kernel_rfl) (by kernel_rfl) (fun _ _ _ h => h) (Or.inr ⟨by kernel_rfl, rfl⟩) hS3 ?_
        simp only [Act.put]
        refine wpAnyH_take (i := 18) (oi := ⟨some 72, _, _, _, _, _⟩) (v := undef) rfl (by kernel_rfl) (by kernel_rfl) (by kernel_rfl) (fun _ _ _ h => h) (Or.inr ⟨by kernel_rfl, rfl⟩) hS3 ?_
        simp only [Act.put]
        refine wpAnyH_take (i := 19) (oi := ⟨some 73, _, _, _, _, _⟩) (v := undef) rfl (by kernel_rfl) (by kernel_rfl) (by kernel_rfl) (fun _ _ _ h => h) (Or.inr ⟨by kernel_rfl, rfl⟩) hS3 ?_
        simp only [Act.put]
        refine wpAnyH_take (i := 20) (oi := ⟨some 74, _, _, _, _, _⟩) (v := (.bool true)) rfl (by kernel_rfl) (by kernel_rfl) (by kernel_rfl) (fun _ _ _ h => h) (Or.inl ⟨by kernel_rfl, fun w hS => by obtain ⟨⟨s1, s2, s3⟩, ⟨s4, s5, s6⟩, s7, s8, s9⟩ := hS; go_simp⟩) hS3 ?_
        simp only [Act.put]
        refine wpAnyH_take (i := 21) (oi := ⟨some 6, _, _, _, _, _⟩) (v := (.bool true)) rfl (by kernel_rfl) (by kernel_rfl) (by kernel_rfl) (fun _ _ _ h => h) (Or.inl ⟨by kernel_rfl, fun w hS => by obtain ⟨⟨s1, s2, s3⟩, ⟨s4, s5, s6⟩, s7, s8, s9⟩ := hS; go_simp⟩) hS3 ?_
        simp only [Act.put]
        refine wpAnyH_done (by kernel_rfl) ?_ _
        have HBB := Lib.hid (show Bel w w2 by (repeat (first | exact Bel.refl _ | assumption | refine Bel.drew ?_ | refine Bel.drewN ?_ _ | refine Bel.alloc ?_ _ | refine Bel.setCell ?_ (by first | omega | (simp; done) | (simp; omega) | (simp at *; omega)) _ | refine Bel.trans ?_ (by assumption))))
        simp only [List.setIfInBounds_toArray, List.set_cons_zero, List.set_cons_succ]
        go_wp2
        go_ret
        exact ⟨ret_bool HS.out.symm, HBB.out⟩
    · rw [r1, Bool.true_or] at HS
      have R1 := Lib.hid r1
      clear r1
      go_enter Try.func99, Try.ntmps99
      go_wp2_with fail
      refine wp_region_held_drew (S := HU w.heap.size x y z m1 m2 m3) (by kernel_rfl) (Held.out _ (by (repeat (first | exact Bel.refl _ | assumption | refine Bel.drew ?_ | refine Bel.drewN ?_ _ | refine Bel.alloc ?_ _ | refine Bel.setCell ?_ (by first | omega | (simp; done) | (simp; omega) | (simp at *; omega)) _ | refine Bel.trans ?_ (by assumption))))) (fun hS => ?_)
      refine wpAnyH_take (i := 0) (oi := ⟨some 54, _, _, _, _, _⟩) (v := (.slice (some ⟨b, o, none⟩) (n + 1) c)) rfl (by kernel_rfl) (by kernel_rfl) (by kernel_rfl) (fun _ _ _ h => h) (Or.inl ⟨by kernel_rfl, fun w hS => by obtain ⟨⟨s1, s2, s3⟩, ⟨s4, s5, s6⟩, s7, s8, s9⟩ := hS; go_simp⟩) hS ?_
      simp only [Act.put]
      refine wpAnyH_take (i := 1) (oi := ⟨some 55, _, _, _, _, _⟩) (v := (.slice (some ⟨b, o + 3, none⟩) n (c - 1))) rfl (by kernel_rfl) (by kernel_rfl) (by kernel_rfl) (fun _ _ _ h => h) (Or.inl ⟨by kernel_rfl, fun w hS => by obtain ⟨⟨s1, s2, s3⟩, ⟨s4, s5, s6⟩, s7, s8, s9⟩ := hS; go_simp⟩) hS ?_
      simp only [Act.put]
      refine wpAnyH_take (i := 2) (oi := ⟨some 56, _, _, _, _, _⟩) (v := (.int .i64 ((k : Int) + 1))) rfl (by kernel_rfl) (by kernel_rfl) (by kernel_rfl) (fun _ _ _ h => h) (Or.inl ⟨by kernel_rfl, fun w hS => by obtain ⟨⟨s1, s2, s3⟩, ⟨s4, s5, s6⟩, s7, s8, s9⟩ := hS; go_simp⟩) hS ?_
      simp only [Act.put]
      refine wpAnyH_take (i := 3) (oi := ⟨some 57, _, _, _, _, _⟩) (v := (.int .i64 (k : Int))) rfl (by kernel_rfl) (by kernel_rfl) (by kernel_rfl) (fun _ _ _ h => h) (Or.inl ⟨by kernel_rfl, fun w hS => by obtain ⟨⟨s1, s2, s3⟩, ⟨s4, s5, s6⟩, s7, s8, s9⟩ := hS; go_simp⟩) hS ?_
      simp only [Act.put]
      refine wpAnyH_take (i := 4) (oi := ⟨some 58, _, _, _, _, _⟩) (v := (W3 (x - m1) (y - m2) (z - m3))) rfl (by kernel_rfl) (by kernel_rfl) (by kernel_rfl) (fun _ _ _ h => h) (Or.inl ⟨by kernel_rfl, fun w hS => by obtain ⟨⟨s1, s2, s3⟩, ⟨s4, s5, s6⟩, s7, s8, s9⟩ := hS; go_simp⟩) hS ?_
      simp only [Act.put]
      refine wpAnyH_ready (rs := [5]) (by kernel_rfl) (by simp) (AllReadyH.cons rfl (fun K hK => ?_) AllReadyH.nil)
      go_simp
      refine (ih (some ⟨b, o + 3, none⟩) n (c - 1) k (x - m1) (y - m2) (z - m3) _ (hT0.out _ (by (repeat (first | exact Bel.refl _ | assumption | refine Bel.drew ?_ | refine Bel.drewN ?_ _ | refine Bel.alloc ?_ _ | refine Bel.setCell ?_ (by first | omega | (simp; done) | (simp; omega) | (simp at *; omega)) _ | refine Bel.trans ?_ (by assumption))))) Hn.out HC1.out HC2.out HK1.out HL1.out HL2.out HL3.out HB.out).mono ?_
      rintro e w1 ⟨rfl, hb1⟩
      rw [R1.out]
      refine hK.out _ _ (HU.bel hS hb1) (fun hS2 => ?_)
      clear hK K
      try simp only [Act.put]
      refine wpAnyH_take (i := 6) (oi := ⟨some 60, _, _, _, _, _⟩) (v := (.bool true)) rfl (by kernel_rfl) (by kernel_rfl) (by kernel_rfl) (fun _ _ _ h => h) (Or.inl ⟨by kernel_rfl, fun w hS => by obtain ⟨⟨s1, s2, s3⟩, ⟨s4, s5, s6⟩, s7, s8, s9⟩ := hS; go_simp⟩) hS2 ?_
      simp only [Act.put]
      refine wpAnyH_take (i := 7) (oi := ⟨some 61, _, _, _, _, _⟩) (v := undef) rfl (by kernel_rfl) (by kernel_rfl) (by kernel_rfl) (fun _ _ _ h => h) (Or.inr ⟨by kernel_rfl, rfl⟩) hS2 ?_
      simp only [Act.put]
      refine wpAnyH_take (i := 8) (oi := ⟨some 62, _, _, _, _, _⟩) (v := undef) rfl (by kernel_rfl) (by kernel_rfl) (by kernel_rfl) (fun _ _ _ h => h) (Or.inr ⟨by kernel_rfl, rfl⟩) hS2 ?_
      simp only [Act.put]
      refine wpAnyH_take (i := 9) (oi := ⟨some 63, _, _, _, _, _⟩) (v := undef) rfl (by kernel_rfl) (by kernel_rfl) (by kernel_rfl) (fun _ _ _ h => h) (Or.inr ⟨by kernel_rfl, rfl⟩) hS2 ?_
      simp only [Act.put]
      refine wpAnyH_take (i := 10) (oi := ⟨some 64, _, _, _, _, _⟩) (v := undef) rfl (by kernel_rfl) (by kernel_rfl) (by kernel_rfl) (fun _ _ _ h => h) (Or.inr ⟨by kernel_rfl, rfl⟩) hS2 ?_
      simp only [Act.put]
      refine wpAnyH_take (i := 11) (oi := ⟨some 65, _, _, _, _, _⟩) (v := undef) rfl (by kernel_rfl) (by kernel_rfl) (by kernel_rfl) (fun _ _ _ h => h) (Or.inr ⟨by kernel_rfl, rfl⟩) hS2 ?_
      simp only [Act.put]
      refine wpAnyH_take (i := 12) (oi := ⟨some 66, _, _, _, _, _⟩) (v := undef) rfl (by kernel_rfl) (by kernel_rfl) (by kernel_rfl) (fun _ _ _ h => h) (Or.inr ⟨by kernel_rfl, rfl⟩) hS2 ?_
      simp only [Act.put]
      refine wpAnyH_take (i := 13) (oi := ⟨some 67, _, _, _, _, _⟩) (v := (.bool true)) rfl (by kernel_rfl) (by kernel_rfl) (by kernel_rfl) (fun _ _ _ h => h) (Or.inl ⟨by kernel_rfl, fun w hS => by obtain ⟨⟨s1, s2, s3⟩, ⟨s4, s5, s6⟩, s7, s8, s9⟩ := hS; go_simp⟩) hS2 ?_
      simp only [Act.put]
      refine wpAnyH_take (i := 14) (oi := ⟨some 68, _, _, _, _, _⟩) (v := (.bool true)) rfl (by kernel_rfl) (by kernel_rfl) (by kernel_rfl) (fun _ _ _ h => h) (Or.inl ⟨by kernel_rfl, fun w hS => by obtain ⟨⟨s1, s2, s3⟩, ⟨s4, s5, s6⟩, s7, s8, s9⟩ := hS; go_simp⟩) hS2 ?_
      simp only [Act.put]
      refine wpAnyH_take (i := 15) (oi := ⟨some 69, _, _, _, _, _⟩) (v := undef) rfl (by kernel_rfl) (by kernel_rfl) (by kernel_rfl) (fun _ _ _ h => h) (Or.inr ⟨by kernel_rfl, rfl⟩) hS2 ?_
      simp only [Act.put]
      refine wpAnyH_take (i := 16) (oi := ⟨some 70, _, _, _, _, _⟩) (v := undef) rfl (by kernel_rfl) (by kernel_rfl) (by kernel_rfl) (fun _ _ _ h => h) (Or.inr ⟨by kernel_rfl, rfl⟩) hS2 ?_
      simp only [Act.put]
      refine wpAnyH_take (i := 17) (oi := ⟨some 71, _, _, _, _, _⟩) (v := undef) rfl (by kernel_rfl) (by kernel_rfl) (by kernel_rfl) (fun _ _ _ h => h) (Or.inr ⟨by kernel_rfl, rfl⟩) hS2 ?_
      simp only [Act.put]
      refine wpAnyH_take (i := 18) (oi := ⟨some 72, _, _, _, _, _⟩) (v := undef) rfl (by kernel_rfl) (by kernel_rfl) (by kernel_rfl) (fun _ _ _ h => h) (Or.inr ⟨by kernel_rfl, rfl⟩) hS2 ?_
      simp only [Act.put]
      refine wpAnyH_take (i := 19) (oi := ⟨some 73, _, _, _, _, _⟩) (v := undef) rfl (by kernel_rfl) (by kernel_rfl) (by kernel_rfl) (fun _ _ _ h => h) (Or.inr ⟨by kernel_rfl, rfl⟩) hS2 ?_
      simp only [Act.put]
      refine wpAnyH_take (i := 20) (oi := ⟨some 74, _, _, _, _, _⟩) (v := (.bool true)) rfl (by kernel_rfl) (by kernel_rfl) (by kernel_rfl) (fun _ _ _ h => h) (Or.inl ⟨by kernel_rfl, fun w hS => by obtain ⟨⟨s1, s2, s3⟩, ⟨s4, s5, s6⟩, s7, s8, s9⟩ := hS; go_simp⟩) hS2 ?_
      simp only [Act.put]
      refine wpAnyH_take (i := 21) (oi := ⟨some 6, _, _, _, _, _⟩) (v := (.bool true)) rfl (by kernel_rfl) (by kernel_rfl) (by kernel_rfl) (fun _ _ _ h => h) (Or.inl ⟨by kernel_rfl, fun w hS => by obtain ⟨⟨s1, s2, s3⟩, ⟨s4, s5, s6⟩, s7, s8, s9⟩ := hS; go_simp⟩) hS2 ?_
      simp only [Act.put]
      refine wpAnyH_done (by kernel_rfl) ?_ _
      have HBB := Lib.hid (show Bel w w1 by (repeat (first | exact Bel.refl _ | assumption | refine Bel.drew ?_ | refine Bel.drewN ?_ _ | refine Bel.alloc ?_ _ | refine Bel.setCell ?_ (by first | omega | (simp; done) | (simp; omega) | (simp at *; omega)) _ | refine Bel.trans ?_ (by assumption))))
      simp only [List.setIfInBounds_toArray, List.set_cons_zero, List.set_cons_succ]
      go_wp2
      go_ret
      exact ⟨ret_bool HS.out.symm, HBB.out⟩
theorem some_all : ∀ (l : List M3), SomeOK l
  | [] => fun A n c k x y z w hR hn hc h27 hk hx hy hz hb => by
    rcases k with _ | k
    · exact some_zero [] A n c x y z w
    · exact some_many [] A n c (k + 1) x y z w hn (by simp at hn; omega)
  | m :: l => fun A n c k x y z w hR hn hc h27 hk hx hy hz hb => by
    by_cases h0 : k = 0
    · subst h0
      exact some_zero (m :: l) A n c x y z w
    · by_cases hkn : k > n
      · exact some_many (m :: l) A n c k x y z w hn hkn
      · obtain ⟨k', rfl⟩ : ∃ k', k = k' + 1 := ⟨k - 1, by omega⟩
        rw [List.length_cons] at hn
        subst hn
        obtain ⟨b, o, rfl⟩ : ∃ b o, A = some ⟨b, o, none⟩ := by
          rcases hR with h | ⟨b, o, h, _⟩
          · cases h
          · exact ⟨b, o, h⟩
        exact some_step m l (some_all l) b o l.length c k' x y z w hR rfl hc h27 (by omega) hx hy hz hb
end Go.Proofs.Ytmckoehkekkldaa
