/- Sieve. -/
import Derived.Test.YtnlcndhbamcpdaaBF
namespace Go.Proofs.Ytnlcndhbamcpdaa
open Go.RowKit

theorem Prs.drop {w : World} {b o : Nat} {gs : List (Int × Int)} (h : Prs w (some ⟨b, o, none⟩) gs) (u : Nat) : Prs w (some ⟨b, o + u * 2, none⟩) (gs.drop u) := by
  rcases h with rfl | ⟨b', o', hA, hb, hc⟩
  · exact .inl (by simp)
  · injection hA with hA
    injection hA with e1 e2
    subst e1 e2
    refine .inr ⟨b, o + u * 2, rfl, hb, fun j s x hj => ?_⟩
    rw [List.getElem?_drop] at hj
    have := hc (u + j) s x hj
    rw [show o + u * 2 + j * 2 = o + (u + j) * 2 from by omega]
    exact this
/-- Two new slices. -/
def TwoLots (w : World) (xs ys : List (Int × Int)) (e : Ending) (w' : World) : Prop :=
  ∃ g1 g2 n1 n2, e = .returned (.tuple #[.slice (some ⟨g1, 0, none⟩) n1 n1, .slice (some ⟨g2, 0, none⟩) n2 n2, .int .i64 0]) ∧ n1 = xs.length ∧ n2 = ys.length ∧ w.heap.size ≤ g1 ∧ Bel w w' ∧ Row w' g1 (n1 * 2) (n1 * 2) (flat2 xs) ∧ Row w' g2 (n2 * 2) (n2 * 2) (flat2 ys)

set_option maxRecDepth 100000 in
set_option maxHeartbeats 4000000 in
theorem wSieve_ok (A : Option Addr) (n c : Nat) (gs : List (Int × Int)) (size : Int) (w : World) (hR : Prs w A gs) (hn : gs.length = n) (hc : n ≤ c) (hc2 : c ≤ maxLen) (hA : c = n ∨ ∃ b o, A = some ⟨b, o, none⟩) (he : errV gs = 0) :
    Calls Try.prog 49 #[.slice A n c, .int .i64 size] w (TwoLots w (fineL gs size) (roughL gs size)) := by
  have h6 := (errV_zero he).1
  rw [hn] at h6
  rw [← take_fine size he, ← drop_rough size he]
  have hu := upto_le gs size
  rw [hn] at hu
  obtain ⟨u, hu'⟩ : ∃ u, u = upto gs size := ⟨_, rfl⟩
  rw [← hu'] at hu ⊢
  have HU := Lib.hid hu'; clear hu'
  have HL1 := Lib.hid (show (gs.take u).length = u by rw [List.length_take]; omega)
  have HL2 := Lib.hid (show (gs.drop u).length = n - u by rw [List.length_drop]; omega)
  unfold maxLen at hc2
  have hc3 : (c : Int) ≤ 9223372036854775807 := by omega
  clear hc2
  have Hn := Lib.hid hn; clear hn
  have HE := Lib.hid he; clear he
  by_cases hun : u = n
  · have HD := Lib.hid (show gs.drop u = [] from List.eq_nil_of_length_eq_zero (by rw [HL2.out]; omega))
    have HT := Lib.hid (show gs.take u = gs from List.take_of_length_le (by rw [Hn.out]; omega))
    rw [HD.out, HT.out]
    subst hun
    by_cases huc : c = u
    · subst huc
      clear hA
      go_enter Try.func49, Try.ntmps49
      go_wp2_with fail
      refine (validate_any A c _ gs _ hR Hn.out (by unfold maxLen; omega)).mono ?_
      rintro e w1 ⟨rfl, hb1⟩
      rw [HE.out]
      go_wp2_with fail
      refine (upTo_any A c _ gs size _ (hR.bel hb1) Hn.out (by omega)).mono ?_
      rintro e w2 ⟨rfl, rfl⟩
      rw [← HU.out]
      go_wp2
      go_region_with (first | (go_at_call_of 89 (Value.slice A c c); refine (copyLot_any A c c gs _ ?_ Hn.out (by omega)).mono ?_; exact hR.bel (by (repeat (first | exact Bel.refl _ | assumption | refine Bel.drew ?_ | refine Bel.drewN ?_ _ | refine Bel.alloc ?_ _ | refine Bel.setCell ?_ (by first | omega | (simp; done) | (simp; omega) | (simp at *; omega)) _ | refine Bel.trans ?_ (by assumption)))); rintro e w3 ⟨g1, rfl, hg1, hb3, hr1⟩) | (go_at_call_of 89 (Value.slice A 0 0); refine (copyLot_any A 0 0 [] _ (.inl rfl) rfl (by omega)).mono ?_; rintro e w4 ⟨g2, rfl, hg2, hb4, hr2⟩))
      go_wp2
      go_ret3
      exact ⟨g1, g2, c, 0, rfl, Hn.out.symm, rfl, Nat.le_trans hb1.size (by simpa using hg1), by (repeat (first | exact Bel.refl _ | assumption | refine Bel.drew ?_ | refine Bel.drewN ?_ _ | refine Bel.alloc ?_ _ | refine Bel.setCell ?_ (by first | omega | (simp; done) | (simp; omega) | (simp at *; omega)) _ | refine Bel.trans ?_ (by assumption))), hr1.bel hb4, hr2⟩
    · obtain ⟨b, o, rfl⟩ : ∃ b o, A = some ⟨b, o, none⟩ := by rcases hA with h | h; exact absurd h huc; exact h
      have huc2 : u < c := by omega
      clear hA
      go_enter Try.func49, Try.ntmps49
      go_wp2_with fail
      refine (validate_any _ u c gs _ hR Hn.out (by unfold maxLen; omega)).mono ?_
      rintro e w1 ⟨rfl, hb1⟩
      rw [HE.out]
      go_wp2_with fail
      refine (upTo_any _ u c gs size _ (hR.bel hb1) Hn.out (by omega)).mono ?_
      rintro e w2 ⟨rfl, rfl⟩
      rw [← HU.out]
      go_wp2
      go_region_with (first | (go_at_call_of 89 (Value.slice (some ⟨b, o, none⟩) u c); refine (copyLot_any _ u c gs _ ?_ Hn.out (by omega)).mono ?_; exact hR.bel (by (repeat (first | exact Bel.refl _ | assumption | refine Bel.drew ?_ | refine Bel.drewN ?_ _ | refine Bel.alloc ?_ _ | refine Bel.setCell ?_ (by first | omega | (simp; done) | (simp; omega) | (simp at *; omega)) _ | refine Bel.trans ?_ (by assumption)))); rintro e w3 ⟨g1, rfl, hg1, hb3, hr1⟩) | (go_at_call 89; refine (copyLot_any _ 0 _ [] _ (.inl rfl) rfl (by omega)).mono ?_; rintro e w4 ⟨g2, rfl, hg2, hb4, hr2⟩))
      go_wp2
      go_ret3
      exact ⟨g1, g2, u, 0, rfl, Hn.out.symm, rfl, Nat.le_trans hb1.size (by simpa using hg1), by (repeat (first | exact Bel.refl _ | assumption | refine Bel.drew ?_ | refine Bel.drewN ?_ _ | refine Bel.alloc ?_ _ | refine Bel.setCell ?_ (by first | omega | (simp; done) | (simp; omega) | (simp at *; omega)) _ | refine Bel.trans ?_ (by assumption))), hr1.bel hb4, hr2⟩
  · obtain ⟨b, o, rfl⟩ : ∃ b o, A = some ⟨b, o, none⟩ := by
      rcases hR with rfl | ⟨b, o, h, _⟩
      · have := Hn.out; simp at this; omega
      · exact ⟨b, o, h⟩
    have huc2 : u < c := by omega
    have hun2 : u < n := by omega
    clear hA
    go_enter Try.func49, Try.ntmps49
    go_wp2_with fail
    refine (validate_any _ n c gs _ hR Hn.out (by unfold maxLen; omega)).mono ?_
    rintro e w1 ⟨rfl, hb1⟩
    rw [HE.out]
    go_wp2_with fail
    refine (upTo_any _ n c gs size _ (hR.bel hb1) Hn.out (by omega)).mono ?_
    rintro e w2 ⟨rfl, rfl⟩
    rw [← HU.out]
    go_wp2
    go_region_with (first | (go_at_call_of 89 (Value.slice (some ⟨b, o, none⟩) u c); refine (copyLot_any _ u c (gs.take u) _ ?_ HL1.out (by omega)).mono ?_; exact (hR.bel (by (repeat (first | exact Bel.refl _ | assumption | refine Bel.drew ?_ | refine Bel.drewN ?_ _ | refine Bel.alloc ?_ _ | refine Bel.setCell ?_ (by first | omega | (simp; done) | (simp; omega) | (simp at *; omega)) _ | refine Bel.trans ?_ (by assumption))))).take u; rintro e w3 ⟨g1, rfl, hg1, hb3, hr1⟩) | (go_at_call 89; refine (copyLot_any _ (n - u) _ (gs.drop u) _ ?_ HL2.out (by omega)).mono ?_; exact (hR.bel (by (repeat (first | exact Bel.refl _ | assumption | refine Bel.drew ?_ | refine Bel.drewN ?_ _ | refine Bel.alloc ?_ _ | refine Bel.setCell ?_ (by first | omega | (simp; done) | (simp; omega) | (simp at *; omega)) _ | refine Bel.trans ?_ (by assumption))))).drop u; rintro e w4 ⟨g2, rfl, hg2, hb4, hr2⟩))
    go_wp2
    go_ret3
    exact ⟨g1, g2, u, n - u, rfl, HL1.out.symm, HL2.out.symm, Nat.le_trans hb1.size (by simpa using hg1), by (repeat (first | exact Bel.refl _ | assumption | refine Bel.drew ?_ | refine Bel.drewN ?_ _ | refine Bel.alloc ?_ _ | refine Bel.setCell ?_ (by first | omega | (simp; done) | (simp; omega) | (simp at *; omega)) _ | refine Bel.trans ?_ (by assumption))), hr1.bel hb4, hr2⟩

theorem wSieve_err (A : Option Addr) (n c : Nat) (gs : List (Int × Int)) (size : Int) (w : World) (hR : Prs w A gs) (hn : gs.length = n) (hmax : n ≤ maxLen) (he : errV gs ≠ 0) :
    Calls Try.prog 49 #[.slice A n c, .int .i64 size] w fun e w' => e = .returned (.tuple #[.slice none 0 0, .slice none 0 0, .int .i64 (errV gs)]) ∧ Bel w w' := by
  have hne : (errV gs != 0) = true := by simpa using he
  go_enter Try.func49, Try.ntmps49
  go_wp2_with fail
  refine (validate_any A n c gs _ hR hn hmax).mono ?_
  rintro e w1 ⟨rfl, hb1⟩
  go_wp2
  go_ret3
  exact ⟨rfl, hb1⟩
end Go.Proofs.Ytnlcndhbamcpdaa
