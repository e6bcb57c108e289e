/- One settling of a pot. -/
import Derived.Test.YtmbhhooiaonhjaaF
import Derived.Maps.AppendAt
namespace Go.Proofs.Ytmbhhooiaonhjaa
open Go.RowKit

section
variable {a w w' : World} {g : Nat}
theorem gb_refl (a : World) (r : Option Nat) : a.grownBy a r := ⟨rfl, rfl, rfl, Nat.le_refl _, fun _ _ _ => rfl⟩
theorem gb_bel (h : a.grownBy w (some g)) (hb : Bel w w') : a.grownBy w' (some g) :=
  ⟨hb.os.trans h.os, hb.tape.trans h.tape, hb.output.trans h.output, Nat.le_trans h.size hb.size, fun k hk hne => (hb.block k (Nat.lt_of_lt_of_le hk h.size)).trans (h.block k hk hne)⟩
theorem gb_drew (h : a.grownBy w (some g)) : a.grownBy w.drew (some g) := gb_bel h (Bel.refl _).drew
theorem gb_drewN (h : a.grownBy w (some g)) (n : Nat) : a.grownBy (w.drewN n) (some g) := gb_bel h ((Bel.refl _).drewN n)
theorem gb_alloc (h : a.grownBy w (some g)) (o : Obj) : a.grownBy (w.alloc o) (some g) := gb_bel h ((Bel.refl _).alloc o)
theorem gb_set (h : a.grownBy w (some g)) {p : Addr} (hp : p.block = g ∨ a.heap.size ≤ p.block) (u : Value) : a.grownBy (w.setCell p u) (some g) :=
  ⟨h.os, h.tape, h.output, by simpa [World.setCell] using h.size, fun k hk hne => (Below.heap_setCell _ _ _ _ (by
    rintro rfl
    rcases hp with hp | hp
    · exact hne (by rw [hp])
    · omega)).trans (h.block k hk hne)⟩
theorem gb_trans {b : World} (h : a.grownBy b (some g)) (k : b.grownBy w (some g)) : a.grownBy w (some g) :=
  ⟨k.os.trans h.os, k.tape.trans h.tape, k.output.trans h.output, Nat.le_trans h.size k.size, fun i hi hne => (k.block i (Nat.lt_of_lt_of_le hi h.size) hne).trans (h.block i hi hne)⟩
/-- What is written is a new block alone: all old ones are as they were. -/
theorem Bel.grown {b : World} (h : Bel a b) (k : b.grownBy w (some g)) (hg : a.heap.size ≤ g) : Bel a w :=
  Below.grown h k h.size (fun i hi => by injection hi with hi; omega)
end

/-- The pot's cells behind k grains that have been settled. -/
def mixF (ps qs : List (Int × Int × Int)) (k i : Nat) : Int := if i < k * 3 then flat3 qs i else flat3 ps i
theorem Row.upd {w w' : World} {g n k : Nat} {ps qs : List (Int × Int × Int)} {s a b a' b' : Int} (h : Row w g (n * 3) (n * 3) (mixF ps qs k)) (hp : ps[k]? = some (s, a, b)) (hq : qs[k]? = some (s, a', b'))
    (hu : Upd w w' g (k * 3 + 1) (.int .i64 a') (.int .i64 b')) : Row w' g (n * 3) (n * 3) (mixF ps qs (k + 1)) := by
  obtain ⟨e1, e2, e3⟩ := flat3_at hp
  obtain ⟨q1, q2, q3⟩ := flat3_at hq
  have key : ∀ i, i < n * 3 → w'.cell? ⟨g, i, none⟩ = some (.int .i64 (mixF ps qs (k + 1) i)) := by
    intro i hi
    by_cases c1 : i = k * 3 + 1
    · subst c1
      rw [hu.one]
      simp only [mixF]
      rw [if_pos (by omega), q2]
    · by_cases c2 : i = k * 3 + 2
      · subst c2
        have := hu.two
        rw [show k * 3 + 1 + 1 = k * 3 + 2 from rfl] at this
        rw [this]
        simp only [mixF]
        rw [if_pos (by omega), q3]
      · rw [hu.other i c1 c2, h.cells i hi]
        by_cases c3 : i < k * 3
        · simp only [mixF]
          rw [if_pos c3, if_pos (by omega)]
        · by_cases c4 : i = k * 3
          · subst c4
            simp only [mixF]
            rw [if_neg (by omega), if_pos (by omega), q1, e1]
          · simp only [mixF]
            rw [if_neg (by omega), if_neg (by omega)]
  exact ⟨Nat.lt_of_lt_of_le h.lt hu.grown.size, fun i => (hu.frozen i).trans (h.fz i), fun i hi => ⟨_, key i hi⟩, key⟩

/-- The pot behind a settling, and a new slice of what has sunk. -/
def Settled (w : World) (g n : Nat) (ps : List (Int × Int × Int)) (t d : Int) (e : Ending) (w' : World) : Prop :=
  ∃ g', e = .returned (.slice (some ⟨g', 0, none⟩) n n) ∧ w.heap.size ≤ g' ∧ w.grownBy w' (some g) ∧ Row w' g (n * 3) (n * 3) (flat3 (ps.map (stayP t d))) ∧ Row w' g' (n * 2) (n * 2) (flat2 (ps.map (sinkP t d)))
/-- A pot in whose numbers nothing wraps. -/
def PotOk (ps : List (Int × Int × Int)) : Prop := ∀ p ∈ ps, (1 ≤ p.1 ∧ p.1 ≤ 20) ∧ (0 ≤ p.2.1 ∧ p.2.1 ≤ 100000000) ∧ 0 < p.2.2 ∧ p.2.2 ≤ 1000000

set_option maxHeartbeats 1000000 in
theorem settle_any (g n c : Nat) (ps : List (Int × Int × Int)) (t d : Int) (w : World) (hR : Row w g (n * 3) (n * 3) (flat3 ps)) (hn : ps.length = n) (hmax : n ≤ 40) (hok : PotOk ps) (t1 : 0 ≤ t) (t2 : t ≤ 100) (d1 : 1 ≤ d) (d2 : d ≤ 20) :
    Calls Try.prog 40 #[.slice (some ⟨g, 0, none⟩) n c, .int .i64 t, .int .i64 d] w (Settled w g n ps t d) := by
  have Hn := Lib.hid hn; clear hn
  obtain ⟨C, hC, hmk⟩ := make_any (P := Try.prog) 47 46 infoRat Try.underlying47 n (by omega) (by omega)
  have HR := Row.new w C 46 (flat2 (ps.map (sinkP t d))) hC
  clear hC
  go_enter Try.func40, Try.ntmps40
  go_wp2
  go_loopw [8, 14] (fun _ i wr => ∃ k : Nat, k ≤ n ∧ i = .int .i64 k ∧ w.grownBy wr (some g) ∧ Row wr w.heap.size (n * 2) (k * 2) (flat2 (ps.map (sinkP t d))) ∧ Row wr g (n * 3) (n * 3) (mixF ps (ps.map (stayP t d)) k)) (fun _ i _ => n - (intOf i).toNat)
  case atStart => exact ⟨0, Nat.zero_le _, rfl, gb_alloc (gb_refl _ _) _, HR, (hR.alloc _).congr fun i _ => by simp [mixF]⟩
  case round =>
    clear HR hmk
    have hgw := hR.lt
    clear hR
    obtain ⟨k, hk, rfl, hgb, hrs, hrp⟩ := hrel
    by_cases hlt : k < n
    · obtain ⟨⟨s, a, b⟩, hp⟩ : ∃ x, ps[k]? = some x := ⟨_, List.getElem?_eq_getElem (by rw [Hn.out]; exact hlt)⟩
      obtain ⟨⟨b1, b2⟩, ⟨b3, b4⟩, b5, b6⟩ := hok _ (List.mem_of_getElem? hp)
      simp only at b1 b2 b3 b4 b5 b6
      obtain ⟨u1, u2, u3, u4⟩ := p_bd (s := s) (by omega) t1 d1
      obtain ⟨z1, z2⟩ := mul_bd (A := 100000000) (B := 20) b3 b4 u1 (by omega)
      obtain ⟨z3, z4⟩ := mul_bd (A := 1000000) (B := 20) (Int.le_of_lt b5) b6 (Int.le_of_lt u3) (by omega)
      obtain ⟨z5, z6⟩ := mul_bd (A := 100000000) (B := 20) (b := pd t d s - pn t d s) b3 b4 (by omega) (by omega)
      have z7 := Int.mul_pos b5 u3
      have hq : (ps.map (stayP t d))[k]? = some (stayP t d (s, a, b)) := by simp [hp]
      have hs2 : (ps.map (sinkP t d))[k]? = some (sinkP t d (s, a, b)) := by simp [hp]
      obtain ⟨e1, e2⟩ := flat2_at hs2
      obtain ⟨e3, e4, e5⟩ := flat3_at hp
      have E1 := Lib.hid e1; have E2 := Lib.hid e2
      clear e1 e2 hs2
      have held : ∀ w', Bel wr w' → g < w'.heap.size ∧ w'.cell? ⟨g, k * 3, none⟩ = some (.int .i64 s) ∧ w'.cell? ⟨g, k * 3 + 1, none⟩ = some (.int .i64 a) ∧ w'.cell? ⟨g, k * 3 + 1 + 1, none⟩ = some (.int .i64 b) ∧ w'.frozen? ⟨g, k * 3 + 1, none⟩ = false ∧ w'.frozen? ⟨g, k * 3 + 1 + 1, none⟩ = false := by
        intro w' h
        have hr := hrp.bel h
        have f1 := hr.cells (k * 3) (by omega)
        have f2 := hr.cells (k * 3 + 1) (by omega)
        have f3 := hr.cells (k * 3 + 2) (by omega)
        rw [show mixF ps (ps.map (stayP t d)) k (k * 3) = s from by simp only [mixF]; rw [if_neg (by omega), e3]] at f1
        rw [show mixF ps (ps.map (stayP t d)) k (k * 3 + 1) = a from by simp only [mixF]; rw [if_neg (by omega), e4]] at f2
        rw [show mixF ps (ps.map (stayP t d)) k (k * 3 + 2) = b from by simp only [mixF]; rw [if_neg (by omega), e5]] at f3
        exact ⟨hr.lt, f1, f2, f3, hr.fz _, hr.fz _⟩
      have helds : ∀ w', wr.grownBy w' (some g) → (∃ v, w'.cell? ⟨w.heap.size, k * 2, none⟩ = some v) ∧ (∃ v, w'.cell? ⟨w.heap.size, k * 2 + 1, none⟩ = some v) ∧ w'.frozen? ⟨w.heap.size, k * 2, none⟩ = false ∧ w'.frozen? ⟨w.heap.size, k * 2 + 1, none⟩ = false := by
        intro w' h
        have hr := hrs.grown h (by omega)
        exact ⟨hr.all _ (by omega), hr.all _ (by omega), hr.fz _, hr.fz _⟩
      have Held := Lib.hid held; clear held
      have Helds := Lib.hid helds; clear helds
      clear e3 e4 e5
      obtain ⟨q0, q1, q2, q3, q4, q5⟩ := Held.out wr (Bel.refl _)
      have Hp := Lib.hid hp; clear hp
      have Hq := Lib.hid hq; clear hq
      have hkn : (k : Int) < (n : Int) := by omega
      have hk0 : (0 : Int) ≤ (k : Int) := by omega
      go_wp2
      go_region_with (first | (go_at_call 45; refine (partOf_any _ _ _ _ (by omega) (by omega) (by omega) (by omega) (by omega) (by omega)).mono ?_; rintro e w2 ⟨rfl, hb2⟩; obtain ⟨p0, p1, p2, p3, p4, p5⟩ := Held.out w2 (by (repeat (first | exact Bel.refl _ | assumption | refine Bel.drew ?_ | refine Bel.drewN ?_ _ | refine Bel.alloc ?_ _ | refine Bel.setCell ?_ (by first | omega | (simp; done) | (simp; omega) | (simp at *; omega)) _ | refine Bel.trans ?_ (by assumption))))) | (go_at_call 55; refine (sink_any g (k * 3 + 1) a b (pn t d s) (pd t d s) _ p0 p2 p3 p4 p5 z1 z7 (by omega) (by omega) u1 u2 (by omega) z5 (by omega)).mono ?_; rintro e w3 ⟨rfl, hu⟩; obtain ⟨⟨v0, r0⟩, ⟨v1, r1⟩, r2, r3⟩ := Helds.out w3 (gb_trans (gb_bel (gb_refl wr _) (by (repeat (first | exact Bel.refl _ | assumption | refine Bel.drew ?_ | refine Bel.drewN ?_ _ | refine Bel.alloc ?_ _ | refine Bel.setCell ?_ (by first | omega | (simp; done) | (simp; omega) | (simp at *; omega)) _ | refine Bel.trans ?_ (by assumption))))) hu.grown)))
      go_wp2
      go_roundw
      case rel =>
        have hb3 : Bel wr w2 := by (repeat (first | exact Bel.refl _ | assumption | refine Bel.drew ?_ | refine Bel.drewN ?_ _ | refine Bel.alloc ?_ _ | refine Bel.setCell ?_ (by first | omega | (simp; done) | (simp; omega) | (simp at *; omega)) _ | refine Bel.trans ?_ (by assumption)))
        have hB : w.heap.size ≠ g := by omega
        refine ⟨k + 1, by omega, by go_num, gb_set (gb_set (gb_trans (gb_bel hgb hb3) hu.grown) (.inr (Nat.le_refl _)) _) (.inr (Nat.le_refl _)) _, ?_, ?_⟩
        · rw [show (k + 1) * 2 = k * 2 + 1 + 1 from by omega]
          exact (((hrs.bel hb3).grown hu.grown hB).set_ (i := k * 2) rfl (by omega) E1.out.symm).set_ (i := k * 2 + 1) rfl (by omega) E2.out.symm
        · exact ((Row.upd (hrp.bel hb3) Hp.out Hq.out hu).far (Ne.symm hB) _).far (Ne.symm hB) _
      case measure => simp [intOf]; omega
    · obtain rfl : k = n := by omega
      go_wp2
      go_ret
      refine ⟨_, rfl, Nat.le_refl _, hgb, hrp.congr fun i hi => ?_, hrs⟩
      simp only [mixF]
      rw [if_pos hi]
end Go.Proofs.Ytmbhhooiaonhjaa

