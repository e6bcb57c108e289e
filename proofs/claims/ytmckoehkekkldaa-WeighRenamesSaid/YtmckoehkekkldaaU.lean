/- The document's search for marks that add up: walked. -/
import Derived.Test.YtmckoehkekkldaaT
namespace Go.Proofs.Ytmckoehkekkldaa
open Go.RowKit

/-- The slice at A reads as the marks L (three cells each). -/
def Mks (w : World) (A : Option Addr) (L : List M3) : Prop :=
  L = [] ∨ ∃ b o, A = some ⟨b, o, none⟩ ∧ b < w.heap.size ∧ ∀ j x y z, L[j]? = some (x, y, z) → w.cell? ⟨b, o + j * 3, none⟩ = some (.int .i64 x) ∧ w.cell? ⟨b, o + j * 3 + 1, none⟩ = some (.int .i64 y) ∧ w.cell? ⟨b, o + j * 3 + 2, none⟩ = some (.int .i64 z)
theorem Mks.bel {w w' : World} {A : Option Addr} {L : List M3} (h : Mks w A L) (hb : Bel w w') : Mks w' A L := by
  rcases h with h | ⟨b, o, rfl, hl, hc⟩
  · exact .inl h
  · refine .inr ⟨b, o, rfl, Nat.lt_of_lt_of_le hl hb.use.2.2, fun j x y z hj => ?_⟩
    rw [hb.use.1 _ _ hl, hb.use.1 _ _ hl, hb.use.1 _ _ hl]
    exact hc j x y z hj
theorem Mks.tail {w : World} {b o : Nat} {m : M3} {L : List M3} (h : Mks w (some ⟨b, o, none⟩) (m :: L)) : Mks w (some ⟨b, o + 3, none⟩) L := by
  rcases h with h | ⟨b', o', hA, hl, hc⟩
  · cases h
  · obtain ⟨rfl, rfl⟩ : b = b' ∧ o = o' := by simpa using hA
    refine .inr ⟨b, o + 3, rfl, hl, fun j x y z hj => ?_⟩
    have := hc (j + 1) x y z (by simpa using hj)
    rw [show o + 3 + j * 3 = o + (j + 1) * 3 from by omega]
    exact this
/-- The cells of marks. -/
def cel3 (l : List M3) : List Value := l.flatMap fun p => [.int .i64 p.1, .int .i64 p.2.1, .int .i64 p.2.2]
theorem cel3_append (l m : List M3) : cel3 (l ++ m) = cel3 l ++ cel3 m := by simp [cel3]
theorem cel3_at (l : List M3) (j : Nat) : (cel3 l)[j * 3]? = (l[j]?).map (fun p => Value.int .i64 p.1) ∧ (cel3 l)[j * 3 + 1]? = (l[j]?).map (fun p => Value.int .i64 p.2.1) ∧ (cel3 l)[j * 3 + 2]? = (l[j]?).map (fun p => Value.int .i64 p.2.2) := by
  induction l generalizing j with
  | nil => simp [cel3]
  | cons p r ih =>
    have e : cel3 (p :: r) = .int .i64 p.1 :: .int .i64 p.2.1 :: .int .i64 p.2.2 :: cel3 r := rfl
    rw [e]
    match j with
    | 0 => simp
    | j + 1 =>
      have := ih j
      rw [show (j + 1) * 3 = j * 3 + 1 + 1 + 1 from by omega]
      simpa using this
theorem mks_of_own {w : World} {base e n c : Nat} {A : Option Addr} {l : List M3} (h : w.ownsRow base e 3 (.slice A n c) l.length (cel3 l)) : Mks w A l := by
  rcases h.2 with ⟨hv, h0⟩ | ⟨g, cap, cur, hv, hb, hg, hn, hm, hs, ht⟩
  · exact .inl (List.eq_nil_of_length_eq_zero h0)
  · injection hv with hA _ _
    subst hA
    have hlt := (h.lt g rfl).2
    have hc := h.cells (g := g) rfl
    refine .inr ⟨g, 0, rfl, hlt, fun j x y z hj => ?_⟩
    have h1 := hc (j * 3) (.int .i64 x) (by rw [(cel3_at l j).1, hj]; rfl)
    have h2 := hc (j * 3 + 1) (.int .i64 y) (by rw [(cel3_at l j).2.1, hj]; rfl)
    have h3 := hc (j * 3 + 2) (.int .i64 z) (by rw [(cel3_at l j).2.2, hj]; rfl)
    rw [Go.Addr.add_mid] at h1 h2 h3
    exact ⟨h1, h2, h3⟩
/-- A mark as a value, number by number. -/
abbrev W3 (x y z : Int) : Value := .agg #[.int .i64 x, .int .i64 y, .int .i64 z]
theorem run_eq3' (w : World) (a b c x y z : Int) : (Op.equalIn 10000 77 (.agg #[.int .i64 a, .int .i64 b, .int .i64 c]) (.agg #[.int .i64 x, .int .i64 y, .int .i64 z])).run Try.prog w = .ok (a == x && (b == y && c == z)) w := by
  obtain ⟨i, hi, hzz⟩ := Option.map_eq_some_iff.1 infoInt
  have hp : Try.prog.plainKey 3 = true := by kernel_rfl
  have hcells : Try.prog.cellsOf 3 = 1 := by kernel_rfl
  rw [show (10000 : Nat) = 9999 + 1 from rfl, run_equalIn_array w 9999 _ _ Try.underlying77 hi, show List.range 3 = [0, 1, 2] from rfl, hcells]
  have p := fun (xs : Array Value) (off : Nat) (v : Value) (h : xs[off]? = some v) => run_part_plain w hp h
  have e : ∀ a b : Int, (Op.equalIn 9999 3 (.int .i64 a) (.int .i64 b)).run Try.prog w = .ok (a == b) w := fun a b => run_equalIn_int (P := Try.prog) w 9998 3 .i64 .i64 a b Try.underlying3
  simp only [Op.eqItems, Sem.run_bind]
  rw [p _ (0 * 1) (.int .i64 a) (by rfl), Result.andThen_ok, p _ (0 * 1) (.int .i64 x) (by rfl), Result.andThen_ok, e, Result.andThen_ok]
  cases h1 : (a == x)
  · simp
  · rw [Bool.not_true, if_neg (by decide), Sem.run_bind, p _ (1 * 1) (.int .i64 b) (by rfl), Result.andThen_ok, Sem.run_bind, p _ (1 * 1) (.int .i64 y) (by rfl), Result.andThen_ok, Sem.run_bind, e, Result.andThen_ok]
    cases h2 : (b == y)
    · simp
    · rw [Bool.not_true, if_neg (by decide), Sem.run_bind, p _ (2 * 1) (.int .i64 c) (by rfl), Result.andThen_ok, Sem.run_bind, p _ (2 * 1) (.int .i64 z) (by rfl), Result.andThen_ok, Sem.run_bind, e, Result.andThen_ok]
      cases h3 : (c == z) <;> simp
attribute [local go_sem] run_eq3'
theorem box3 {w0 w' : World} {a b c : Int} {ty : TypeId} (h : Bel (w0.alloc (.cells #[.int .i64 a, .int .i64 b, .int .i64 c] ty)) w') :
    w'.cell? ⟨w0.heap.size, 0, none⟩ = some (.int .i64 a) ∧ w'.cell? ⟨w0.heap.size, 1, none⟩ = some (.int .i64 b) ∧ w'.cell? ⟨w0.heap.size, 2, none⟩ = some (.int .i64 c) := by
  refine ⟨?_, ?_, ?_⟩ <;> (rw [h.use.1 _ _ (by simp)]; simp)
/-- What is said of the search in a list. -/
def SomeOK (l : List M3) : Prop := ∀ (A : Option Addr) (n c k : Nat) (x y z : Int) (w : World), Mks w A l → l.length = n → n ≤ c → n ≤ 27 → k ≤ 50 →
  (-100 + (n : Int) ≤ x ∧ x ≤ 100 - (n : Int)) → (-100 + (n : Int) ≤ y ∧ y ≤ 100 - (n : Int)) → (-100 + (n : Int) ≤ z ∧ z ≤ 100 - (n : Int)) →
  (∀ p ∈ l, (-1 ≤ p.1 ∧ p.1 ≤ 1) ∧ (-1 ≤ p.2.1 ∧ p.2.1 ≤ 1) ∧ (-1 ≤ p.2.2 ∧ p.2.2 ≤ 1)) →
  Calls Try.prog 99 #[.slice A n c, .int .i64 (k : Int), W3 x y z] w fun e w' => e = .returned (.bool (someL l k x y z)) ∧ Bel w w'
set_option maxRecDepth 100000 in
set_option maxHeartbeats 1000000 in
theorem some_zero (l : List M3) (A : Option Addr) (n c : Nat) (x y z : Int) (w : World) : Calls Try.prog 99 #[.slice A n c, .int .i64 (0 : Int), W3 x y z] w fun e w' => e = .returned (.bool (someL l 0 x y z)) ∧ Bel w w' := by
  have HZ := Lib.hid (someL_zero l x y z)
  go_enter Try.func99, Try.ntmps99
  go_wp2
  go_ret
  exact ⟨ret_bool HZ.out.symm, by (repeat (first | exact Bel.refl _ | assumption | refine Bel.drew ?_ | refine Bel.drewN ?_ _ | refine Bel.alloc ?_ _ | refine Bel.setCell ?_ (by first | omega | (simp; done) | (simp; omega) | (simp at *; omega)) _ | refine Bel.trans ?_ (by assumption)))⟩
set_option maxRecDepth 100000 in
set_option maxHeartbeats 1000000 in
theorem some_many (l : List M3) (A : Option Addr) (n c k : Nat) (x y z : Int) (w : World) (hl : l.length = n) (hk : k > n) : Calls Try.prog 99 #[.slice A n c, .int .i64 (k : Int), W3 x y z] w fun e w' => e = .returned (.bool (someL l k x y z)) ∧ Bel w w' := by
  have HZ := Lib.hid (someL_many l k x y z (by omega))
  have hk0 : ¬ (k : Int) = 0 := by omega
  have hki : (k : Int) > (n : Int) := by omega
  clear hl
  go_enter Try.func99, Try.ntmps99
  go_wp2
  go_ret
  exact ⟨ret_bool HZ.out.symm, by (repeat (first | exact Bel.refl _ | assumption | refine Bel.drew ?_ | refine Bel.drewN ?_ _ | refine Bel.alloc ?_ _ | refine Bel.setCell ?_ (by first | omega | (simp; done) | (simp; omega) | (simp at *; omega)) _ | refine Bel.trans ?_ (by assumption)))⟩
end Go.Proofs.Ytmckoehkekkldaa
