/- The document's search, a list of one. -/
import Derived.Test.YtmckoehkekkldaaU
namespace Go.Proofs.Ytmckoehkekkldaa
open Go.RowKit

/-- What the search's own boxes hold. -/
def HU (p : Nat) (x y z m1 m2 m3 : Int) (w' : World) : Prop :=
  (w'.cell? ⟨p, 0, none⟩ = some (.int .i64 x) ∧ w'.cell? ⟨p, 1, none⟩ = some (.int .i64 y) ∧ w'.cell? ⟨p, 2, none⟩ = some (.int .i64 z)) ∧
  (w'.cell? ⟨p + 1 + 1, 0, none⟩ = some (.int .i64 (x - m1)) ∧ w'.cell? ⟨p + 1 + 1, 1, none⟩ = some (.int .i64 (y - m2)) ∧ w'.cell? ⟨p + 1 + 1, 2, none⟩ = some (.int .i64 (z - m3))) ∧
  w'.cell? ⟨p + 1 + 1 + 1, 0, none⟩ = some (.int .i64 (x + m1)) ∧ w'.cell? ⟨p + 1 + 1 + 1, 1, none⟩ = some (.int .i64 (y + m2)) ∧ w'.cell? ⟨p + 1 + 1 + 1, 2, none⟩ = some (.int .i64 (z + m3))
theorem cell_lt {w : World} {g o : Nat} {v : Value} (h : w.cell? ⟨g, o, none⟩ = some v) : g < w.heap.size := block_lt_of_cell h
theorem HU.bel {p : Nat} {x y z m1 m2 m3 : Int} {w w' : World} (h : HU p x y z m1 m2 m3 w) (hb : Bel w w') : HU p x y z m1 m2 m3 w' := by
  obtain ⟨⟨s1, s2, s3⟩, ⟨s4, s5, s6⟩, s7, s8, s9⟩ := h
  exact ⟨⟨by rw [hb.use.1 _ _ (cell_lt s1)]; exact s1, by rw [hb.use.1 _ _ (cell_lt s2)]; exact s2, by rw [hb.use.1 _ _ (cell_lt s3)]; exact s3⟩, ⟨by rw [hb.use.1 _ _ (cell_lt s4)]; exact s4, by rw [hb.use.1 _ _ (cell_lt s5)]; exact s5, by rw [hb.use.1 _ _ (cell_lt s6)]; exact s6⟩, by rw [hb.use.1 _ _ (cell_lt s7)]; exact s7, by rw [hb.use.1 _ _ (cell_lt s8)]; exact s8, by rw [hb.use.1 _ _ (cell_lt s9)]; exact s9⟩
set_option maxRecDepth 100000 in
set_option maxHeartbeats 4000000 in
theorem some_one (m : M3) (b o : Nat) (x y z : Int) (w : World) (hR : Mks w (some ⟨b, o, none⟩) [m]) (hx : -99 ≤ x ∧ x ≤ 99) (hy : -99 ≤ y ∧ y ≤ 99) (hz : -99 ≤ z ∧ z ≤ 99) (hb : (-1 ≤ m.1 ∧ m.1 ≤ 1) ∧ (-1 ≤ m.2.1 ∧ m.2.1 ≤ 1) ∧ (-1 ≤ m.2.2 ∧ m.2.2 ≤ 1)) :
    Calls Try.prog 99 #[.slice (some ⟨b, o, none⟩) 1 1, .int .i64 1, W3 x y z] w fun e w' => e = .returned (.bool (someL [m] 1 x y z)) ∧ Bel w w' := by
  obtain ⟨m1, m2, m3⟩ := m
  obtain ⟨⟨a1, a2⟩, ⟨a3, a4⟩, ⟨a5, a6⟩⟩ := hb
  simp only at a1 a2 a3 a4 a5 a6
  have HS : Hid (someL [(m1, m2, m3)] 1 x y z = (someL [] 0 (x - m1) (y - m2) (z - m3) || (someL [] 0 (x + m1) (y + m2) (z + m3) || someL [] 1 x y z))) := by
    rfl
  have C1 : Hid (∀ W, Calls Try.prog 99 #[.slice (some ⟨b, o, none⟩) 0 0, .int .i64 0, W3 (x - m1) (y - m2) (z - m3)] W fun e w' => e = .returned (.bool (someL [] 0 (x - m1) (y - m2) (z - m3))) ∧ Bel W w') := fun W => some_zero [] _ 0 0 _ _ _ W
  have C2 : Hid (∀ W, Calls Try.prog 99 #[.slice (some ⟨b, o, none⟩) 0 0, .int .i64 0, W3 (x + m1) (y + m2) (z + m3)] W fun e w' => e = .returned (.bool (someL [] 0 (x + m1) (y + m2) (z + m3))) ∧ Bel W w') := fun W => some_zero [] _ 0 0 _ _ _ W
  have C3 : Hid (∀ W, Calls Try.prog 99 #[.slice (some ⟨b, o, none⟩) 0 0, .int .i64 1, W3 x y z] W fun e w' => e = .returned (.bool false) ∧ Bel W w') := fun W => some_many [] (some ⟨b, o, none⟩) 0 0 1 x y z W rfl (by decide)
  obtain ⟨hbl, c0, c1, c2⟩ : b < w.heap.size ∧ w.cell? ⟨b, o, none⟩ = some (.int .i64 m1) ∧ w.cell? ⟨b, o + 1, none⟩ = some (.int .i64 m2) ∧ w.cell? ⟨b, o + 2, none⟩ = some (.int .i64 m3) := by
    rcases hR with h | ⟨b', o', hA, hl, hcc⟩
    · cases h
    · obtain ⟨rfl, rfl⟩ : b = b' ∧ o = o' := by simpa using hA
      have := hcc 0 m1 m2 m3 rfl
      rw [Nat.zero_mul, Nat.add_zero] at this
      exact ⟨hl, this⟩
  clear hR
  obtain ⟨x1, x2⟩ := hx; obtain ⟨y1, y2⟩ := hy; obtain ⟨z1, z2⟩ := hz
  have Held : Hid (∀ w', Bel ((((w.alloc (.cells #[.int .i64 x, .int .i64 y, .int .i64 z] 77)).alloc (.cells #[.int .i64 m1, .int .i64 m2, .int .i64 m3] 77)).alloc (.cells #[.int .i64 (x - m1), .int .i64 (y - m2), .int .i64 (z - m3)] 77)).alloc (.cells #[.int .i64 (x + m1), .int .i64 (y + m2), .int .i64 (z + m3)] 77)) w' → HU w.heap.size x y z m1 m2 m3 w') := fun w' h => by
    obtain ⟨a1, a2, a3⟩ := box3 h
    simp only [World.size_alloc] at a1 a2 a3
    obtain ⟨b1, b2, b3⟩ := box3 (w0 := w) (((((Bel.refl _).alloc _).alloc _).alloc _).trans h)
    obtain ⟨d1, d2, d3⟩ := box3 (w0 := (w.alloc (.cells #[.int .i64 x, .int .i64 y, .int .i64 z] 77)).alloc (.cells #[.int .i64 m1, .int .i64 m2, .int .i64 m3] 77)) (((Bel.refl _).alloc _).trans h)
    simp only [World.size_alloc] at d1 d2 d3
    exact ⟨⟨b1, b2, b3⟩, ⟨d1, d2, d3⟩, a1, a2, a3⟩
  have WK0 : IntKind.i64.wrap 0 = 0 := rfl
  cases r1 : someL [] 0 (x - m1) (y - m2) (z - m3)
  · cases r2 : someL [] 0 (x + m1) (y + m2) (z + m3)
    · rw [r1, r2, Bool.false_or, Bool.false_or, show someL [] 1 x y z = false from rfl] at HS
      have R1 := Lib.hid r1; have R2 := Lib.hid r2
      clear r1 r2
      go_enter Try.func99, Try.ntmps99
      go_wp2_with fail
      refine wp_region_held_drew (S := HU w.heap.size x y z m1 m2 m3) (by kernel_rfl) (Held.out _ (by (repeat (first | exact Bel.refl _ | assumption | refine Bel.drew ?_ | refine Bel.drewN ?_ _ | refine Bel.alloc ?_ _ | refine Bel.setCell ?_ (by first | omega | (simp; done) | (simp; omega) | (simp at *; omega)) _ | refine Bel.trans ?_ (by assumption))))) (fun hS => ?_)
      refine wpAnyH_take (i := 0) (oi := ⟨some 54, _, _, _, _, _⟩) (v := (.slice (some ⟨b, o, none⟩) 1 1)) rfl (by kernel_rfl) (by kernel_rfl) (by kernel_rfl) (fun _ _ _ h => h) (Or.inl ⟨by kernel_rfl, fun w hS => by obtain ⟨⟨s1, s2, s3⟩, ⟨s4, s5, s6⟩, s7, s8, s9⟩ := hS; go_simp⟩) hS ?_
      simp only [Act.put]
      refine wpAnyH_take (i := 1) (oi := ⟨some 55, _, _, _, _, _⟩) (v := (.slice (some ⟨b, o, none⟩) 0 0)) rfl (by kernel_rfl) (by kernel_rfl) (by kernel_rfl) (fun _ _ _ h => h) (Or.inl ⟨by kernel_rfl, fun w hS => by obtain ⟨⟨s1, s2, s3⟩, ⟨s4, s5, s6⟩, s7, s8, s9⟩ := hS; go_simp⟩) hS ?_
      simp only [Act.put]
      refine wpAnyH_take (i := 2) (oi := ⟨some 56, _, _, _, _, _⟩) (v := (.int .i64 1)) rfl (by kernel_rfl) (by kernel_rfl) (by kernel_rfl) (fun _ _ _ h => h) (Or.inl ⟨by kernel_rfl, fun w hS => by obtain ⟨⟨s1, s2, s3⟩, ⟨s4, s5, s6⟩, s7, s8, s9⟩ := hS; go_simp⟩) hS ?_
      simp only [Act.put]
      refine wpAnyH_take (i := 3) (oi := ⟨some 57, _, _, _, _, _⟩) (v := (.int .i64 0)) rfl (by kernel_rfl) (by kernel_rfl) (by kernel_rfl) (fun _ _ _ h => h) (Or.inl ⟨by kernel_rfl, fun w hS => by obtain ⟨⟨s1, s2, s3⟩, ⟨s4, s5, s6⟩, s7, s8, s9⟩ := hS; go_simp⟩) hS ?_
      simp only [Act.put]
      refine wpAnyH_take (i := 4) (oi := ⟨some 58, _, _, _, _, _⟩) (v := (W3 (x - m1) (y - m2) (z - m3))) rfl (by kernel_rfl) (by kernel_rfl) (by kernel_rfl) (fun _ _ _ h => h) (Or.inl ⟨by kernel_rfl, fun w hS => by obtain ⟨⟨s1, s2, s3⟩, ⟨s4, s5, s6⟩, s7, s8, s9⟩ := hS; go_simp⟩) hS ?_
      simp only [Act.put]
      refine wpAnyH_ready (rs := [5]) (by kernel_rfl) (by simp) (AllReadyH.cons rfl (fun K hK => ?_) AllReadyH.nil)
      go_simp
      refine (C1.out _).mono ?_
      rintro e w1 ⟨rfl, hb1⟩
      rw [R1.out]
      refine hK.out _ _ (HU.bel hS hb1) (fun hS2 => ?_)
      clear hK K
      try simp only [Act.put]
      refine wpAnyH_take (i := 6) (oi := ⟨some 60, _, _, _, _, _⟩) (v := (.bool false)) rfl (by kernel_rfl) (by kernel_rfl) (by kernel_rfl) (fun _ _ _ h => h) (Or.inl ⟨by kernel_rfl, fun w hS => by obtain ⟨⟨s1, s2, s3⟩, ⟨s4, s5, s6⟩, s7, s8, s9⟩ := hS; go_simp⟩) hS2 ?_
      simp only [Act.put]
      refine wpAnyH_take (i := 7) (oi := ⟨some 61, _, _, _, _, _⟩) (v := (.slice (some ⟨b, o, none⟩) 1 1)) rfl (by kernel_rfl) (by kernel_rfl) (by kernel_rfl) (fun _ _ _ h => h) (Or.inl ⟨by kernel_rfl, fun w hS => by obtain ⟨⟨s1, s2, s3⟩, ⟨s4, s5, s6⟩, s7, s8, s9⟩ := hS; go_simp⟩) hS2 ?_
      simp only [Act.put]
      refine wpAnyH_take (i := 8) (oi := ⟨some 62, _, _, _, _, _⟩) (v := (.slice (some ⟨b, o, none⟩) 0 0)) rfl (by kernel_rfl) (by kernel_rfl) (by kernel_rfl) (fun _ _ _ h => h) (Or.inl ⟨by kernel_rfl, fun w hS => by obtain ⟨⟨s1, s2, s3⟩, ⟨s4, s5, s6⟩, s7, s8, s9⟩ := hS; go_simp⟩) hS2 ?_
      simp only [Act.put]
      refine wpAnyH_take (i := 9) (oi := ⟨some 63, _, _, _, _, _⟩) (v := (.int .i64 1)) rfl (by kernel_rfl) (by kernel_rfl) (by kernel_rfl) (fun _ _ _ h => h) (Or.inl ⟨by kernel_rfl, fun w hS => by obtain ⟨⟨s1, s2, s3⟩, ⟨s4, s5, s6⟩, s7, s8, s9⟩ := hS; go_simp⟩) hS2 ?_
      simp only [Act.put]
      refine wpAnyH_take (i := 10) (oi := ⟨some 64, _, _, _, _, _⟩) (v := (.int .i64 0)) rfl (by kernel_rfl) (by kernel_rfl) (by kernel_rfl) (fun _ _ _ h => h) (Or.inl ⟨by kernel_rfl, fun w hS => by obtain ⟨⟨s1, s2, s3⟩, ⟨s4, s5, s6⟩, s7, s8, s9⟩ := hS; go_simp⟩) hS2 ?_
      simp only [Act.put]
      refine wpAnyH_take (i := 11) (oi := ⟨some 65, _, _, _, _, _⟩) (v := (W3 (x + m1) (y + m2) (z + m3))) rfl (by kernel_rfl) (by kernel_rfl) (by kernel_rfl) (fun _ _ _ h => h) (Or.inl ⟨by kernel_rfl, fun w hS => by obtain ⟨⟨s1, s2, s3⟩, ⟨s4, s5, s6⟩, s7, s8, s9⟩ := hS; go_simp⟩) hS2 ?_
      simp only [Act.put]
      refine wpAnyH_ready (rs := [12]) (by kernel_rfl) (by simp) (AllReadyH.cons rfl (fun K hK => ?_) AllReadyH.nil)
      go_simp
      refine (C2.out _).mono ?_
      rintro e w2 ⟨rfl, hb2⟩
      rw [R2.out]
      refine hK.out _ _ (HU.bel hS2 hb2) (fun hS3 => ?_)
      clear hK K
      try simp only [Act.put]
      refine wpAnyH_take (i := 13) (oi := ⟨some 67, _, _, _, _, _⟩) (v := (.bool false)) rfl (by kernel_rfl) (by kernel_rfl) (by kernel_rfl) (fun _ _ _ h => h) (Or.inl ⟨by kernel_rfl, fun w hS => by obtain ⟨⟨s1, s2, s3⟩, ⟨s4, s5, s6⟩, s7, s8, s9⟩ := hS; go_simp⟩) hS3 ?_
      simp only [Act.put]
      refine wpAnyH_take (i := 14) (oi := ⟨some 68, _, _, _, _, _⟩) (v := (.bool false)) rfl (by kernel_rfl) (by kernel_rfl) (by kernel_rfl) (fun _ _ _ h => h) (Or.inl ⟨by kernel_rfl, fun w hS => by obtain ⟨⟨s1, s2, s3⟩, ⟨s4, s5, s6⟩, s7, s8, s9⟩ := hS; go_simp⟩) hS3 ?_
      simp only [Act.put]
      refine wpAnyH_take (i := 15) (oi := ⟨some 69, _, _, _, _, _⟩) (v := (.slice (some ⟨b, o, none⟩) 1 1)) rfl (by kernel_rfl) (by kernel_rfl) (by kernel_rfl) (fun _ _ _ h => h) (Or.inl ⟨by kernel_rfl, fun w hS => by obtain ⟨⟨s1, s2, s3⟩, ⟨s4, s5, s6⟩, s7, s8, s9⟩ := hS; go_simp⟩) hS3 ?_
      simp only [Act.put]
      refine wpAnyH_take (i := 16) (oi := ⟨some 70, _, _, _, _, _⟩) (v := (.slice (some ⟨b, o, none⟩) 0 0)) rfl (by kernel_rfl) (by kernel_rfl) (by kernel_rfl) (fun _ _ _ h => h) (Or.inl ⟨by kernel_rfl, fun w hS => by obtain ⟨⟨s1, s2, s3⟩, ⟨s4, s5, s6⟩, s7, s8, s9⟩ := hS; go_simp⟩) hS3 ?_
      simp only [Act.put]
      refine wpAnyH_take (i := 17) (oi := ⟨some 71, _, _, _, _, _⟩) (v := (.int .i64 1)) rfl (by kernel_rfl) (by kernel_rfl) (by kernel_rfl) (fun _ _ _ h => h) (Or.inl ⟨by kernel_rfl, fun w hS => by obtain ⟨⟨s1, s2, s3⟩, ⟨s4, s5, s6⟩, s7, s8, s9⟩ := hS; go_simp⟩) hS3 ?_
      simp only [Act.put]
      refine wpAnyH_take (i := 18) (oi := ⟨some 72, _, _, _, _, _⟩) (v := (W3 x y z)) rfl (by kernel_rfl) (by kernel_rfl) (by kernel_rfl) (fun _ _ _ h => h) (Or.inl ⟨by kernel_rfl, fun w hS => by obtain ⟨⟨s1, s2, s3⟩, ⟨s4, s5, s6⟩, s7, s8, s9⟩ := hS; go_simp⟩) hS3 ?_
      simp only [Act.put]
      refine wpAnyH_ready (rs := [19]) (by kernel_rfl) (by simp) (AllReadyH.cons rfl (fun K hK => ?_) AllReadyH.nil)
      go_simp
      refine (C3.out _).mono ?_
      rintro e w3 ⟨rfl, hb3⟩
      refine hK.out _ _ (HU.bel hS3 hb3) (fun hS4 => ?_)
      clear hK K
      try simp only [Act.put]
      refine wpAnyH_take (i := 20) (oi := ⟨some 74, _, _, _, _, _⟩) (v := (.bool false)) rfl (by kernel_rfl) (by kernel_rfl) (by kernel_rfl) (fun _ _ _ h => h) (Or.inl ⟨by kernel_rfl, fun w hS => by obtain ⟨⟨s1, s2, s3⟩, ⟨s4, s5, s6⟩, s7, s8, s9⟩ := hS; go_simp⟩) hS4 ?_
      simp only [Act.put]
      refine wpAnyH_take (i := 21) (oi := ⟨some 6, _, _, _, _, _⟩) (v := (.bool false)) rfl (by kernel_rfl) (by kernel_rfl) (by kernel_rfl) (fun _ _ _ h => h) (Or.inl ⟨by kernel_rfl, fun w hS => by obtain ⟨⟨s1, s2, s3⟩, ⟨s4, s5, s6⟩, s7, s8, s9⟩ := hS; go_simp⟩) hS4 ?_
      simp only [Act.put]
      refine wpAnyH_done (by kernel_rfl) ?_ _
      have HBB := Lib.hid (show Bel w w3 by (repeat (first | exact Bel.refl _ | assumption | refine Bel.drew ?_ | refine Bel.drewN ?_ _ | refine Bel.alloc ?_ _ | refine Bel.setCell ?_ (by first | omega | (simp; done) | (simp; omega) | (simp at *; omega)) _ | refine Bel.trans ?_ (by assumption))))
      simp only [List.setIfInBounds_toArray, List.set_cons_zero, List.set_cons_succ]
      go_wp2
      go_ret
      exact ⟨ret_bool HS.out.symm, HBB.out⟩
    · rw [r1, r2, Bool.false_or, Bool.true_or] at HS
      have R1 := Lib.hid r1; have R2 := Lib.hid r2
      clear r1 r2
      go_enter Try.func99, Try.ntmps99
      go_wp2_with fail
      refine wp_region_held_drew (S := HU w.heap.size x y z m1 m2 m3) (by kernel_rfl) (Held.out _ (by (repeat (first | exact Bel.refl _ | assumption | refine Bel.drew ?_ | refine Bel.drewN ?_ _ | refine Bel.alloc ?_ _ | refine Bel.setCell ?_ (by first | omega | (simp; done) | (simp; omega) | (simp at *; omega)) _ | refine Bel.trans ?_ (by assumption))))) (fun hS => ?_)
      refine wpAnyH_take (i := 0) (oi := ⟨some 54, _, _, _, _, _⟩) (v := (.slice (some ⟨b, o, none⟩) 1 1)) rfl (by kernel_rfl) (by kernel_rfl) (by kernel_rfl) (fun _ _ _ h => h) (Or.inl ⟨by kernel_rfl, fun w hS => by obtain ⟨⟨s1, s2, s3⟩, ⟨s4, s5, s6⟩, s7, s8, s9⟩ := hS; go_simp⟩) hS ?_
      simp only [Act.put]
      refine wpAnyH_take (i := 1) (oi := ⟨some 55, _, _, _, _, _⟩) (v := (.slice (some ⟨b, o, none⟩) 0 0)) rfl (by kernel_rfl) (by kernel_rfl) (by kernel_rfl) (fun _ _ _ h => h) (Or.inl ⟨by kernel_rfl, fun w hS => by obtain ⟨⟨s1, s2, s3⟩, ⟨s4, s5, s6⟩, s7, s8, s9⟩ := hS; go_simp⟩) hS ?_
      simp only [Act.put]
      refine wpAnyH_take (i := 2) (oi := ⟨some 56, _, _, _, _, _⟩) (v := (.int .i64 1)) rfl (by kernel_rfl) (by kernel_rfl) (by kernel_rfl) (fun _ _ _ h => h) (Or.inl ⟨by kernel_rfl, fun w hS => by obtain ⟨⟨s1, s2, s3⟩, ⟨s4, s5, s6⟩, s7, s8, s9⟩ := hS; go_simp⟩) hS ?_
      simp only [Act.put]
      refine wpAnyH_take (i := 3) (oi := ⟨some 57, _, _, _, _, _⟩) (v := (.int .i64 0)) rfl (by kernel_rfl) (by kernel_rfl) (by kernel_rfl) (fun _ _ _ h => h) (Or.inl ⟨by kernel_rfl, fun w hS => by obtain ⟨⟨s1, s2, s3⟩, ⟨s4, s5, s6⟩, s7, s8, s9⟩ := hS; go_simp⟩) hS ?_
      simp only [Act.put]
      refine wpAnyH_take (i := 4) (oi := ⟨some 58, _, _, _, _, _⟩) (v := (W3 (x - m1) (y - m2) (z - m3))) rfl (by kernel_rfl) (by kernel_rfl) (by kernel_rfl) (fun _ _ _ h => h) (Or.inl ⟨by kernel_rfl, fun w hS => by obtain ⟨⟨s1, s2, s3⟩, ⟨s4, s5, s6⟩, s7, s8, s9⟩ := hS; go_simp⟩) hS ?_
      simp only [Act.put]
      refine wpAnyH_ready (rs := [5]) (by kernel_rfl) (by simp) (AllReadyH.cons rfl (fun K hK => ?_) AllReadyH.nil)
      go_simp
      refine (C1.out _).mono ?_
      rintro e w1 ⟨rfl, hb1⟩
      rw [R1.out]
      refine hK.out _ _ (HU.bel hS hb1) (fun hS2 => ?_)
      clear hK K
      try simp only [Act.put]
      refine wpAnyH_take (i := 6) (oi := ⟨some 60, _, _, _, _, _⟩) (v := (.bool false)) rfl (by kernel_rfl) (by kernel_rfl) (by kernel_rfl) (fun _ _ _ h => h) (Or.inl ⟨by kernel_rfl, fun w hS => by obtain ⟨⟨s1, s2, s3⟩, ⟨s4, s5, s6⟩, s7, s8, s9⟩ := hS; go_simp⟩) hS2 ?_
      simp only [Act.put]
      refine wpAnyH_take (i := 7) (oi := ⟨some 61, _, _, _, _, _⟩) (v := (.slice (some ⟨b, o, none⟩) 1 1)) rfl (by kernel_rfl) (by kernel_rfl) (by kernel_rfl) (fun _ _ _ h => h) (Or.inl ⟨by kernel_rfl, fun w hS => by obtain ⟨⟨s1, s2, s3⟩, ⟨s4, s5, s6⟩, s7, s8, s9⟩ := hS; go_simp⟩) hS2 ?_
      simp only [Act.put]
      refine wpAnyH_take (i := 8) (oi := ⟨some 62, _, _, _, _, _⟩) (v := (.slice (some ⟨b, o, none⟩) 0 0)) rfl (by kernel_rfl) (by kernel_rfl) (by kernel_rfl) (fun _ _ _ h => h) (Or.inl ⟨by kernel_rfl, fun w hS => by obtain ⟨⟨s1, s2, s3⟩, ⟨s4, s5, s6⟩, s7, s8, s9⟩ := hS; go_simp⟩) hS2 ?_
      simp only [Act.put]
      refine wpAnyH_take (i := 9) (oi := ⟨some 63, _, _, _, _, _⟩) (v := (.int .i64 1)) rfl (by kernel_rfl) (by kernel_rfl) (by kernel_rfl) (fun _ _ _ h => h) (Or.inl ⟨by kernel_rfl, fun w hS => by obtain ⟨⟨s1, s2, s3⟩, ⟨s4, s5, s6⟩, s7, s8, s9⟩ := hS; go_simp⟩) hS2 ?_
      simp only [Act.put]
      refine wpAnyH_take (i := 10) (oi := ⟨some 64, _, _, _, _, _⟩) (v := (.int .i64 0)) rfl (by kernel_rfl) (by kernel_rfl) (by kernel_rfl) (fun _ _ _ h => h) (Or.inl ⟨by kernel_rfl, fun w hS => by obtain ⟨⟨s1, s2, s3⟩, ⟨s4, s5, s6⟩, s7, s8, s9⟩ := hS; go_simp⟩) hS2 ?_
      simp only [Act.put]
      refine wpAnyH_take (i := 11) (oi := ⟨some 65, _, _, _, _, _⟩) (v := (W3 (x + m1) (y + m2) (z + m3))) rfl (by kernel_rfl) (by kernel_rfl) (by kernel_rfl) (fun _ _ _ h => h) (Or.inl ⟨by kernel_rfl, fun w hS => by obtain ⟨⟨s1, s2, s3⟩, ⟨s4, s5, s6⟩, s7, s8, s9⟩ := hS; go_simp⟩) hS2 ?_
      simp only [Act.put]
      refine wpAnyH_ready (rs := [12]) (by kernel_rfl) (by simp) (AllReadyH.cons rfl (fun K hK => ?_) AllReadyH.nil)
      go_simp
      refine (C2.out _).mono ?_
      rintro e w2 ⟨rfl, hb2⟩
      rw [R2.out]
      refine hK.out _ _ (HU.bel hS2 hb2) (fun hS3 => ?_)
      clear hK K
      try simp only [Act.put]
      refine wpAnyH_take (i := 13) (oi := ⟨some 67, _, _, _, _, _⟩) (v := (.bool true)) rfl (by kernel_rfl) (by kernel_rfl) (by kernel_rfl) (fun _ _ _ h => h) (Or.inl ⟨by kernel_rfl, fun w hS => by obtain ⟨⟨s1, s2, s3⟩, ⟨s4, s5, s6⟩, s7, s8, s9⟩ := hS; go_simp⟩) hS3 ?_
      simp only [Act.put]
      refine wpAnyH_take (i := 14) (oi := ⟨some 68, _, _, _, _, _⟩) (v := (.bool true)) rfl (by kernel_rfl) (by kernel_rfl) (by kernel_rfl) (fun _ _ _ h => h) (Or.inl ⟨by kernel_rfl, fun w hS => by obtain ⟨⟨s1, s2, s3⟩, ⟨s4, s5, s6⟩, s7, s8, s9⟩ := hS; go_simp⟩) hS3 ?_
      simp only [Act.put]
      refine wpAnyH_take (i := 15) (oi := ⟨some 69, _, _, _, _, _⟩) (v := undef) rfl (by kernel_rfl) (by kernel_rfl) (by kernel_rfl) (fun _ _ _ h => h) (Or.inr ⟨by kernel_rfl, rfl⟩) hS3 ?_
      simp only [Act.put]
      refine wpAnyH_take (i := 16) (oi := ⟨some 70, _, _, _, _, _⟩) (v := undef) rfl (by kernel_rfl) (by kernel_rfl) (by kernel_rfl) (fun _ _ _ h => h) (Or.inr ⟨by kernel_rfl, rfl⟩) hS3 ?_
      simp only [Act.put]
      refine wpAnyH_take (i := 17) (oi := ⟨some 71, _, _, _, _, _⟩) (v := undef) rfl (by kernel_rfl) (by kernel_rfl) (by kernel_rfl) (fun _ _ _ h => h) (Or.inr ⟨by kernel_rfl, rfl⟩) hS3 ?_
      simp only [Act.put]
      refine wpAnyH_take (i := 18) (oi := ⟨some 72, _, _, _, _, _⟩) (v := undef) rfl (by kernel_rfl) (by kernel_rfl) (by kernel_rfl) (fun _ _ _ h => h) (Or.inr ⟨by kernel_rfl, rfl⟩) hS3 ?_
      simp only [Act.put]
      refine wpAnyH_take (i := 19) (oi := ⟨some 73, _, _, _, _, _⟩) (v := undef) rfl (by kernel_rfl) (by kernel_rfl) (by kernel_rfl) (fun _ _ _ h => h) (Or.inr ⟨by kernel_rfl, rfl⟩) hS3 ?_
      simp only [Act.put]
      refine wpAnyH_take (i := 20) (oi := ⟨some 74, _, _, _, _, _⟩) (v := (.bool true)) rfl (by kernel_rfl) (by kernel_rfl) (by kernel_rfl) (fun _ _ _ h => h) (Or.inl ⟨by kernel_rfl, fun w hS => by obtain ⟨⟨s1, s2, s3⟩, ⟨s4, s5, s6⟩, s7, s8, s9⟩ := hS; go_simp⟩) hS3 ?_
      simp only [Act.put]
      refine wpAnyH_take (i := 21) (oi := ⟨some 6, _, _, _, _, _⟩) (v := (.bool true)) rfl (by kernel_rfl) (by kernel_rfl) (by kernel_rfl) (fun _ _ _ h => h) (Or.inl ⟨by kernel_rfl, fun w hS => by obtain ⟨⟨s1, s2, s3⟩, ⟨s4, s5, s6⟩, s7, s8, s9⟩ := hS; go_simp⟩) hS3 ?_
      simp only [Act.put]
      refine wpAnyH_done (by kernel_rfl) ?_ _
      have HBB := Lib.hid (show Bel w w2 by (repeat (first | exact Bel.refl _ | assumption | refine Bel.drew ?_ | refine Bel.drewN ?_ _ | refine Bel.alloc ?_ _ | refine Bel.setCell ?_ (by first | omega | (simp; done) | (simp; omega) | (simp at *; omega)) _ | refine Bel.trans ?_ (by assumption))))
      simp only [List.setIfInBounds_toArray, List.set_cons_zero, List.set_cons_succ]
      go_wp2
      go_ret
      exact ⟨ret_bool HS.out.symm, HBB.out⟩
  · rw [r1, Bool.true_or] at HS
    have R1 := Lib.hid r1
    clear r1
    go_enter Try.func99, Try.ntmps99
    go_wp2_with fail
    refine wp_region_held_drew (S := HU w.heap.size x y z m1 m2 m3) (by kernel_rfl) (Held.out _ (by (repeat (first | exact Bel.refl _ | assumption | refine Bel.drew ?_ | refine Bel.drewN ?_ _ | refine Bel.alloc ?_ _ | refine Bel.setCell ?_ (by first | omega | (simp; done) | (simp; omega) | (simp at *; omega)) _ | refine Bel.trans ?_ (by assumption))))) (fun hS => ?_)
    refine wpAnyH_take (i := 0) (oi := ⟨some 54, _, _, _, _, _⟩) (v := (.slice (some ⟨b, o, none⟩) 1 1)) rfl (by kernel_rfl) (by kernel_rfl) (by kernel_rfl) (fun _ _ _ h => h) (Or.inl ⟨by kernel_rfl, fun w hS => by obtain ⟨⟨s1, s2, s3⟩, ⟨s4, s5, s6⟩, s7, s8, s9⟩ := hS; go_simp⟩) hS ?_
    simp only [Act.put]
    refine wpAnyH_take (i := 1) (oi := ⟨some 55, _, _, _, _, _⟩) (v := (.slice (some ⟨b, o, none⟩) 0 0)) rfl (by kernel_rfl) (by kernel_rfl) (by kernel_rfl) (fun _ _ _ h => h) (Or.inl ⟨by kernel_rfl, fun w hS => by obtain ⟨⟨s1, s2, s3⟩, ⟨s4, s5, s6⟩, s7, s8, s9⟩ := hS; go_simp⟩) hS ?_
    simp only [Act.put]
    refine wpAnyH_take (i := 2) (oi := ⟨some 56, _, _, _, _, _⟩) (v := (.int .i64 1)) rfl (by kernel_rfl) (by kernel_rfl) (by kernel_rfl) (fun _ _ _ h => h) (Or.inl ⟨by kernel_rfl, fun w hS => by obtain ⟨⟨s1, s2, s3⟩, ⟨s4, s5, s6⟩, s7, s8, s9⟩ := hS; go_simp⟩) hS ?_
    simp only [Act.put]
    refine wpAnyH_take (i := 3) (oi := ⟨some 57, _, _, _, _, _⟩) (v := (.int .i64 0)) rfl (by kernel_rfl) (by kernel_rfl) (by kernel_rfl) (fun _ _ _ h => h) (Or.inl ⟨by kernel_rfl, fun w hS => by obtain ⟨⟨s1, s2, s3⟩, ⟨s4, s5, s6⟩, s7, s8, s9⟩ := hS; go_simp⟩) hS ?_
    simp only [Act.put]
    refine wpAnyH_take (i := 4) (oi := ⟨some 58, _, _, _, _, _⟩) (v := (W3 (x - m1) (y - m2) (z - m3))) rfl (by kernel_rfl) (by kernel_rfl) (by kernel_rfl) (fun _ _ _ h => h) (Or.inl ⟨by kernel_rfl, fun w hS => by obtain ⟨⟨s1, s2, s3⟩, ⟨s4, s5, s6⟩, s7, s8, s9⟩ := hS; go_simp⟩) hS ?_
    simp only [Act.put]
    refine wpAnyH_ready (rs := [5]) (by kernel_rfl) (by simp) (AllReadyH.cons rfl (fun K hK => ?_) AllReadyH.nil)
    go_simp
    refine (C1.out _).mono ?_
    rintro e w1 ⟨rfl, hb1⟩
    rw [R1.out]
    refine hK.out _ _ (HU.bel hS hb1) (fun hS2 => ?_)
    clear hK K
    try simp only [Act.put]
    refine wpAnyH_take (i := 6) (oi := ⟨some 60, _, _, _, _, _⟩) (v := (.bool true)) rfl (by kernel_rfl) (by kernel_rfl) (by kernel_rfl) (fun _ _ _ h => h) (Or.inl ⟨by kernel_rfl, fun w hS => by obtain ⟨⟨s1, s2, s3⟩, ⟨s4, s5, s6⟩, s7, s8, s9⟩ := hS; go_simp⟩) hS2 ?_
    simp only [Act.put]
    refine wpAnyH_take (i := 7) (oi := ⟨some 61, _, _, _, _, _⟩) (v := undef) rfl (by kernel_rfl) (by kernel_rfl) (by kernel_rfl) (fun _ _ _ h => h) (Or.inr ⟨by kernel_rfl, rfl⟩) hS2 ?_
    simp only [Act.put]
    refine wpAnyH_take (i := 8) (oi := ⟨some 62, _, _, _, _, _⟩) (v := undef) rfl (by kernel_rfl) (by kernel_rfl) (by kernel_rfl) (fun _ _ _ h => h) (Or.inr ⟨by kernel_rfl, rfl⟩) hS2 ?_
    simp only [Act.put]
    refine wpAnyH_take (i := 9) (oi := ⟨some 63, _, _, _, _, _⟩) (v := undef) rfl (by kernel_rfl) (by kernel_rfl) (by kernel_rfl) (fun _ _ _ h => h) (Or.inr ⟨by kernel_rfl, rfl⟩) hS2 ?_
    simp only [Act.put]
    refine wpAnyH_take (i := 10) (oi := ⟨some 64, _, _, _, _, _⟩) (v := undef) rfl (by kernel_rfl) (by kernel_rfl) (by kernel_rfl) (fun _ _ _ h => h) (Or.inr ⟨by kernel_rfl, rfl⟩) hS2 ?_
    simp only [Act.put]
    refine wpAnyH_take (i := 11) (oi := ⟨some 65, _, _, _, _, _⟩) (v := undef) rfl (by kernel_rfl) (by kernel_rfl) (by kernel_rfl) (fun _ _ _ h => h) (Or.inr ⟨by kernel_rfl, rfl⟩) hS2 ?_
    simp only [Act.put]
    refine wpAnyH_take (i := 12) (oi := ⟨some 66, _, _, _, _, _⟩) (v := undef) rfl (by kernel_rfl) (by kernel_rfl) (by kernel_rfl) (fun _ _ _ h => h) (Or.inr ⟨by kernel_rfl, rfl⟩) hS2 ?_
    simp only [Act.put]
    refine wpAnyH_take (i := 13) (oi := ⟨some 67, _, _, _, _, _⟩) (v := (.bool true)) rfl (by kernel_rfl) (by kernel_rfl) (by kernel_rfl) (fun _ _ _ h => h) (Or.inl ⟨by kernel_rfl, fun w hS => by obtain ⟨⟨s1, s2, s3⟩, ⟨s4, s5, s6⟩, s7, s8, s9⟩ := hS; go_simp⟩) hS2 ?_
    simp only [Act.put]
    refine wpAnyH_take (i := 14) (oi := ⟨some 68, _, _, _, _, _⟩) (v := (.bool true)) rfl (by kernel_rfl) (by kernel_rfl) (by kernel_rfl) (fun _ _ _ h => h) (Or.inl ⟨by kernel_rfl, fun w hS => by obtain ⟨⟨s1, s2, s3⟩, ⟨s4, s5, s6⟩, s7, s8, s9⟩ := hS; go_simp⟩) hS2 ?_
    simp only [Act.put]
    refine wpAnyH_take (i := 15) (oi := ⟨some 69, _, _, _, _, _⟩) (v := undef) rfl (by kernel_rfl) (by kernel_rfl) (by kernel_rfl) (fun _ _ _ h => h) (Or.inr ⟨by kernel_rfl, rfl⟩) hS2 ?_
    simp only [Act.put]
    refine wpAnyH_take (i := 16) (oi := ⟨some 70, _, _, _, _, _⟩) (v := undef) rfl (by kernel_rfl) (by kernel_rfl) (by kernel_rfl) (fun _ _ _ h => h) (Or.inr ⟨by kernel_rfl, rfl⟩) hS2 ?_
    simp only [Act.put]
    refine wpAnyH_take (i := 17) (oi := ⟨some 71, _, _, _, _, _⟩) (v := undef) rfl (by kernel_rfl) (by kernel_rfl) (by kernel_rfl) (fun _ _ _ h => h) (Or.inr ⟨by kernel_rfl, rfl⟩) hS2 ?_
    simp only [Act.put]
    refine wpAnyH_take (i := 18) (oi := ⟨some 72, _, _, _, _, _⟩) (v := undef) rfl (by kernel_rfl) (by kernel_rfl) (by kernel_rfl) (fun _ _ _ h => h) (Or.inr ⟨by kernel_rfl, rfl⟩) hS2 ?_
    simp only [Act.put]
    refine wpAnyH_take (i := 19) (oi := ⟨some 73, _, _, _, _, _⟩) (v := undef) rfl (by kernel_rfl) (by kernel_rfl) (by kernel_rfl) (fun _ _ _ h => h) (Or.inr ⟨by kernel_rfl, rfl⟩) hS2 ?_
    simp only [Act.put]
    refine wpAnyH_take (i := 20) (oi := ⟨some 74, _, _, _, _, _⟩) (v := (.bool true)) rfl (by kernel_rfl) (by kernel_rfl) (by kernel_rfl) (fun _ _ _ h => h) (Or.inl ⟨by kernel_rfl, fun w hS => by obtain ⟨⟨s1, s2, s3⟩, ⟨s4, s5, s6⟩, s7, s8, s9⟩ := hS; go_simp⟩) hS2 ?_
    simp only [Act.put]
    refine wpAnyH_take (i := 21) (oi := ⟨some 6, _, _, _, _, _⟩) (v := (.bool true)) rfl (by kernel_rfl) (by kernel_rfl) (by kernel_rfl) (fun _ _ _ h => h) (Or.inl ⟨by kernel_rfl, fun w hS => by obtain ⟨⟨s1, s2, s3⟩, ⟨s4, s5, s6⟩, s7, s8, s9⟩ := hS; go_simp⟩) hS2 ?_
    simp only [Act.put]
    refine wpAnyH_done (by kernel_rfl) ?_ _
    have HBB := Lib.hid (show Bel w w1 by (repeat (first | exact Bel.refl _ | assumption | refine Bel.drew ?_ | refine Bel.drewN ?_ _ | refine Bel.alloc ?_ _ | refine Bel.setCell ?_ (by first | omega | (simp; done) | (simp; omega) | (simp at *; omega)) _ | refine Bel.trans ?_ (by assumption))))
    simp only [List.setIfInBounds_toArray, List.set_cons_zero, List.set_cons_succ]
    go_wp2
    go_ret
    exact ⟨ret_bool HS.out.symm, HBB.out⟩
end Go.Proofs.Ytmckoehkekkldaa
