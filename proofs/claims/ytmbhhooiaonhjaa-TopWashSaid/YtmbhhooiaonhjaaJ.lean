/- Wash: settlings one after another. -/
import Derived.Test.YtmbhhooiaonhjaaI
namespace Go.Proofs.Ytmbhhooiaonhjaa
open Go.RowKit

def stayN (t d : Int) : Nat → List (Int × Int × Int) → List (Int × Int × Int)
  | 0, ps => ps
  | j + 1, ps => (stayN t d j ps).map (stayP t d)
theorem stayN_length (t d : Int) (j : Nat) (ps : List (Int × Int × Int)) : (stayN t d j ps).length = ps.length := by
  induction j with
  | zero => rfl
  | succ j ih => simp [stayN, ih]
/-- Bounds on what is left: they grow by 20 with each settling. -/
def PotB (M : Int) (ps : List (Int × Int × Int)) : Prop := ∀ p ∈ ps, (1 ≤ p.1 ∧ p.1 ≤ 20) ∧ (0 ≤ p.2.1 ∧ p.2.1 ≤ 100 * M) ∧ 0 < p.2.2 ∧ p.2.2 ≤ M
theorem PotB.ok {M : Int} {ps : List (Int × Int × Int)} (h : PotB M ps) (hM : M ≤ 1000000) : PotOk ps := fun p hp => by have := h p hp; omega
theorem PotB.stay {M : Int} {ps : List (Int × Int × Int)} (h : PotB M ps) {t d : Int} (h0 : 0 ≤ t) (h1 : 1 ≤ d) (h2 : d ≤ 20) : PotB (20 * M) (ps.map (stayP t d)) := by
  intro q hq
  obtain ⟨⟨s, a, b⟩, hp, rfl⟩ := List.mem_map.1 hq
  obtain ⟨⟨b1, b2⟩, ⟨b3, b4⟩, b5, b6⟩ := h _ hp
  simp only at b1 b2 b3 b4 b5 b6
  obtain ⟨u1, u2, u3, u4⟩ := p_bd (s := s) (by omega) h0 h1
  obtain ⟨z3, z4⟩ := mul_bd (A := M) (B := 20) (Int.le_of_lt b5) b6 (Int.le_of_lt u3) (by omega)
  obtain ⟨z5, z6⟩ := mul_bd (A := 100 * M) (B := 20) (b := pd t d s - pn t d s) b3 b4 (by omega) (by omega)
  have z7 := Int.mul_pos b5 u3
  obtain ⟨y1, y2⟩ := num_bd z5 z7
  obtain ⟨y3, y4⟩ := den_bd z5 z7
  simp only [stayP]
  omega
theorem potB_pot {gs : List (Int × Int)} (h : errV gs = 0) : PotB 1 (pot gs) := by
  intro p hp
  obtain ⟨g, hg, rfl⟩ := List.mem_map.1 hp
  have := (errV_zero h).2 g hg
  simp only
  omega
theorem stayN_ok {gs : List (Int × Int)} (h : errV gs = 0) {t d : Int} (h0 : 0 ≤ t) (h1 : 1 ≤ d) (h2 : d ≤ 20) (j : Nat) (hj : j ≤ 4) : PotOk (stayN t d j (pot gs)) := by
  have a0 := potB_pot h
  have a1 := a0.stay h0 h1 h2
  have a2 := a1.stay h0 h1 h2
  have a3 := a2.stay h0 h1 h2
  have a4 := a3.stay h0 h1 h2
  match j, hj with
  | 0, _ => exact a0.ok (by omega)
  | 1, _ => exact a1.ok (by omega)
  | 2, _ => exact a2.ok (by omega)
  | 3, _ => exact a3.ok (by omega)
  | 4, _ => exact a4.ok (by omega)

/-- One new slice of fractions, and OK. -/
def OneRow (w : World) (n : Nat) (xs : List (Int × Int)) (e : Ending) (w' : World) : Prop :=
  ∃ g, e = .returned (.tuple #[.slice (some ⟨g, 0, none⟩) n n, .int .i64 0]) ∧ w.heap.size ≤ g ∧ Bel w w' ∧ Row w' g (n * 2) (n * 2) (flat2 xs)
def restL (ps : List (Int × Int × Int)) : List (Int × Int) := ps.map fun p => (p.2.1, p.2.2)

set_option maxHeartbeats 400000 in
theorem wash_ok (A : Option Addr) (n c : Nat) (gs : List (Int × Int)) (t d : Int) (m : Nat) (w : World) (hR : Prs w A gs) (hn : gs.length = n) (he : errV gs = 0) (g1 : within t 0 100 = true) (g2 : within d 1 20 = true) (m1 : 1 ≤ m) (m2 : m ≤ 4) :
    Calls Try.prog 23 #[.slice A n c, .int .i64 t, .int .i64 d, .int .i64 m] w (OneRow w n (restL (stayN t d m (pot gs)))) := by
  obtain ⟨h6, -⟩ := errV_zero he
  have hp := fun j hj => stayN_ok he (within_iff.1 g1).1 (within_iff.1 g2).1 (within_iff.1 g2).2 j hj
  have HP := Lib.hid hp; clear hp
  obtain ⟨t1, t2⟩ := within_iff.1 g1
  obtain ⟨d1, d2⟩ := within_iff.1 g2
  have h7 : n ≤ 6 := by omega
  have Hn := Lib.hid hn; clear hn
  have HE := Lib.hid he; clear he
  have hlp : ∀ j, (stayN t d j (pot gs)).length = n := fun j => by rw [stayN_length]; simp [pot, Hn.out]
  have Hlp := Lib.hid hlp; clear hlp
  have m3 : ¬ ((m : Int) < 1) := by omega
  have m4 : ¬ ((4 : Int) < m) := by omega
  go_enter Try.func23, Try.ntmps23
  go_wp2_with fail
  refine (validate_any A n c gs _ hR Hn.out (by unfold maxLen; omega)).mono ?_
  rintro e w1 ⟨rfl, hb1⟩
  rw [HE.out]
  go_wp2_with (first | (go_at_call 43; refine (isTime_any _ _).mono ?_; rintro e w' ⟨rfl, rfl⟩) | (go_at_call 44; refine (isDepth_any _ _).mono ?_; rintro e w' ⟨rfl, rfl⟩))
  refine (pour_any A n c gs _ (hR.bel hb1) Hn.out (by omega)).mono ?_
  rintro e w2 ⟨g, rfl, hg, hb2, hr2⟩
  have hb12 := hb1.trans hb2
  have hgw : w.heap.size ≤ g := Nat.le_trans hb1.size hg
  clear hg hb2 hb1
  go_wp2_with fail
  have hl0 : Row w2 g (n * 3) (n * 3) (flat3 (stayN t d 0 (pot gs))) := hr2
  clear hr2
  go_loopw [36] (fun i wr => ∃ k : Nat, k ≤ m ∧ i = .int .i64 k ∧ Bel w wr ∧ Row wr g (n * 3) (n * 3) (flat3 (stayN t d k (pot gs)))) (fun i _ => m - (intOf i).toNat)
  case atStart => exact ⟨0, Nat.zero_le _, rfl, hb12, hl0⟩
  case round =>
    clear hl0
    obtain ⟨k, hk, rfl, hb, hr⟩ := hrel
    by_cases hlt : k < m
    · go_wp2_with fail
      refine (settle_any g n n (stayN t d k (pot gs)) t d _ hr (Hlp.out k) (by omega) (HP.out k (by omega)) t1 t2 d1 d2).mono ?_
      rintro e w3 ⟨g', rfl, hg', hgb, hr3, hs3⟩
      go_wp2
      go_roundw
      case rel => exact ⟨k + 1, by omega, by go_num, Bel.grown hb hgb hgw, hr3⟩
      case measure => simp [intOf]; omega
    · obtain rfl : k = m := by omega
      go_wp2_with fail
      refine (leftIn_any g n n _ _ hr (Hlp.out k) (by omega)).mono ?_
      rintro e w4 ⟨g'', rfl, hg'', hb4, hr4⟩
      go_wp2
      go_ret2
      exact ⟨g'', rfl, Nat.le_trans hb.size hg'', hb.trans hb4, hr4⟩

set_option maxHeartbeats 400000 in
theorem wash_err (A : Option Addr) (n c : Nat) (gs : List (Int × Int)) (t d m : Int) (w : World) (hR : Prs w A gs) (hn : gs.length = n) (hmax : n ≤ maxLen) (x : Int)
    (hx : (errV gs = x ∧ x ≠ 0) ∨ (errV gs = 0 ∧ (within t 0 100 && within d 1 20 && within m 1 4) = false ∧ x = 1)) :
    Calls Try.prog 23 #[.slice A n c, .int .i64 t, .int .i64 d, .int .i64 m] w fun e w' => e = .returned (.tuple #[.slice none 0 0, .int .i64 x]) ∧ Bel w w' := by
  rcases hx with ⟨hx, h0⟩ | ⟨hx, h0, rfl⟩
  · have HX := Lib.hid hx; clear hx
    have hne : (x != 0) = true := by simpa using h0
    clear h0
    go_enter Try.func23, Try.ntmps23
    go_wp2_with fail
    refine (validate_any A n c gs _ hR hn hmax).mono ?_
    rintro e w1 ⟨rfl, hb1⟩
    rw [HX.out]
    go_wp2
    go_ret2
    exact ⟨rfl, hb1⟩
  · have HX := Lib.hid hx; clear hx
    cases g1 : within t 0 100 <;> cases g2 : within d 1 20
    case true.true =>
      simp only [g1, g2, Bool.and_self, Bool.true_and] at h0
      have h1 := within_no.1 h0
      clear h0
      by_cases k1 : m < 1
      · go_enter Try.func23, Try.ntmps23
        go_wp2_with fail
        refine (validate_any A n c gs _ hR hn hmax).mono ?_
        rintro e w1 ⟨rfl, hb1⟩
        rw [HX.out]
        go_wp2_with (first | (go_at_call 43; refine (isTime_any _ _).mono ?_; rintro e w' ⟨rfl, rfl⟩) | (go_at_call 44; refine (isDepth_any _ _).mono ?_; rintro e w' ⟨rfl, rfl⟩))
        go_ret2
        exact ⟨rfl, hb1⟩
      · have k2 : 4 < m := by omega
        clear h1
        go_enter Try.func23, Try.ntmps23
        go_wp2_with fail
        refine (validate_any A n c gs _ hR hn hmax).mono ?_
        rintro e w1 ⟨rfl, hb1⟩
        rw [HX.out]
        go_wp2_with (first | (go_at_call 43; refine (isTime_any _ _).mono ?_; rintro e w' ⟨rfl, rfl⟩) | (go_at_call 44; refine (isDepth_any _ _).mono ?_; rintro e w' ⟨rfl, rfl⟩))
        go_ret2
        exact ⟨rfl, hb1⟩
    all_goals
      clear h0
      go_enter Try.func23, Try.ntmps23
      go_wp2_with fail
      refine (validate_any A n c gs _ hR hn hmax).mono ?_
      rintro e w1 ⟨rfl, hb1⟩
      rw [HX.out]
      go_wp2_with (first | (go_at_call 43; refine (isTime_any _ _).mono ?_; rintro e w' ⟨rfl, rfl⟩) | (go_at_call 44; refine (isDepth_any _ _).mono ?_; rintro e w' ⟨rfl, rfl⟩))
      go_ret2
      exact ⟨rfl, hb1⟩

theorem Row.whole (w : World) (C : Array Value) (ty : TypeId) (m : Nat) (f : Nat → Int) (h : ∀ i, i < m → C[i]? = some (.int .i64 (f i))) : Row (w.alloc (.cells C ty)) w.heap.size m m f :=
  ⟨by simp, fun i => by simp, fun i hi => ⟨_, by rw [World.cell?_alloc_new]; exact h i hi⟩, fun i hi => by rw [World.cell?_alloc_new]; exact h i hi⟩

set_option maxHeartbeats 400000 in
theorem lot_any (w : World) : Calls Try.prog 34 #[] w (MadeRow w 2 [(1, 2), (5, 4)]) := by
  go_enter Try.func34, Try.ntmps34
  go_wp2
  go_ret
  exact ⟨w.heap.size, rfl, Nat.le_refl _, by (repeat (first | exact Bel.refl _ | assumption | refine Bel.drew ?_ | refine Bel.drewN ?_ _ | refine Bel.alloc ?_ _ | refine Bel.setCell ?_ (by first | omega | (simp; done) | (simp; omega) | (simp at *; omega)) _ | refine Bel.trans ?_ (by assumption))), Row.whole _ _ _ _ _ fun i hi => by
    match i, hi with
    | 0, _ => rfl
    | 1, _ => rfl
    | 2, _ => rfl
    | 3, _ => rfl⟩
end Go.Proofs.Ytmbhhooiaonhjaa

