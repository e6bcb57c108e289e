/- Small functions: within, areWithin, isList, isSide, elementsOf, compoundsOf, Min, Max, Long, many. -/
import Derived.Test.YtfjegdejfccgaaaF
import Derived.IntWalk
namespace Go.Proofs.Ytfjegdejfccgaaa
open Go.RowKit

/-- A strike in memory: its two tables. -/
structure Strk (w : World) (A : Option Addr) (n : Nat) (B : Option Addr) (m : Nat) (X Y : List (List Int)) : Prop where
  tx : Tab 0 w A X
  ty : Tab 0 w B Y
  lx : X.length = n
  ly : Y.length = m
theorem Strk.bel {w w' : World} {A B : Option Addr} {n m : Nat} {X Y : List (List Int)} (h : Strk w A n B m X Y) (hb : Bel w w') : Strk w' A n B m X Y := ⟨h.tx.bel hb, h.ty.bel hb, h.lx, h.ly⟩
theorem box_sl {w w' : World} {A B : Option Addr} {n c m d : Nat} {ty : TypeId} (h : Bel (w.alloc (.cells #[.slice A n c, .slice B m d] ty)) w') : w'.cell? ⟨w.heap.size, 0, none⟩ = some (.slice A n c) ∧ w'.cell? ⟨w.heap.size, 1, none⟩ = some (.slice B m d) := by
  refine ⟨?_, ?_⟩ <;> (rw [h.use.1 _ _ (by simp)]; go_simp)
def inB (lo hi v : Int) : Bool := decide (lo ≤ v ∧ v ≤ hi)
theorem inB_yes {lo hi v : Int} (h : inB lo hi v = true) : lo ≤ v ∧ v ≤ hi := of_decide_eq_true h
theorem inB_no {lo hi v : Int} (h : inB lo hi v = false) : ¬ (lo ≤ v ∧ v ≤ hi) := of_decide_eq_false h
theorem within_any (v lo hi : Int) (w : World) : Calls Try.prog 82 #[.int .i64 v, .int .i64 lo, .int .i64 hi] w fun e w' => e = .returned (.bool (inB lo hi v)) ∧ w = w' := by
  by_cases h1 : lo ≤ v
  · by_cases h2 : v ≤ hi
    · have HF := Lib.hid (show inB lo hi v = true from decide_eq_true ⟨h1, h2⟩)
      go_enter Try.func82, Try.ntmps82
      go_wp2
      go_ret
      exact ⟨ret_bool HF.out.symm, rfl⟩
    · have h3 : hi < v := by omega
      have HF := Lib.hid (show inB lo hi v = false from decide_eq_false (by omega))
      clear h2
      go_enter Try.func82, Try.ntmps82
      go_wp2
      go_ret
      exact ⟨ret_bool (by rw [HF.out]; simpa using h3), rfl⟩
  · have h3 : v < lo := by omega
    have HF := Lib.hid (show inB lo hi v = false from decide_eq_false (by omega))
    clear h1
    go_enter Try.func82, Try.ntmps82
    go_wp2
    go_ret
    exact ⟨ret_bool HF.out.symm, rfl⟩
/-- So many numbers, all from lo to hi. -/
def listB (lo hi : Int) (l : List Int) (k : Int) : Bool := l.all (inB lo hi) && ((l.length : Int) == k)
theorem listB_yes {lo hi : Int} {l : List Int} {k : Int} (h : listB lo hi l k = true) : (∀ v ∈ l, lo ≤ v ∧ v ≤ hi) ∧ (l.length : Int) = k := by
  unfold listB at h
  rw [Bool.and_eq_true] at h
  exact ⟨fun v hv => inB_yes (List.all_eq_true.1 h.1 v hv), by simpa using h.2⟩
theorem listB_out {lo hi : Int} {l : List Int} {k : Int} {v : Int} (hv : v ∈ l) (h : inB lo hi v = false) : listB lo hi l k = false := by
  unfold listB
  rw [Bool.and_eq_false_iff]
  left
  rw [Bool.eq_false_iff]
  intro e
  rw [List.all_eq_true.1 e v hv] at h
  cases h
theorem listB_in {lo hi : Int} {l : List Int} {k : Int} (h : ∀ (j : Nat) (v : Int), l[j]? = some v → inB lo hi v = true) : listB lo hi l k = ((l.length : Int) == k) := by
  unfold listB
  rw [List.all_eq_true.2 fun v hv => by
    obtain ⟨j, hj⟩ := List.mem_iff_getElem?.1 hv
    exact h j v hj]
  rfl
set_option maxHeartbeats 400000 in
theorem areWithin_any (A : Option Addr) (n c : Nat) (l : List Int) (k lo hi : Int) (w : World) (hR : Ints w A l) (hn : l.length = n) (hmax : n ≤ maxLen) :
    Calls Try.prog 80 #[.slice A n c, .int .i64 k, .int .i64 lo, .int .i64 hi] w fun e w' => e = .returned (.bool (listB lo hi l k)) ∧ w = w' := by
  have Hn := Lib.hid hn
  have hm : (n : Int) ≤ 9223372036854775807 := by unfold maxLen at hmax; omega
  clear hn hmax
  go_enter Try.func80, Try.ntmps80
  go_wp2
  go_loop [13] (fun i => ∃ q : Nat, q ≤ n ∧ i = .int .i64 q ∧ ∀ (j : Nat) (v : Int), j < q → l[j]? = some v → inB lo hi v = true) (fun i => n - (intOf i).toNat)
  case atStart => exact ⟨0, Nat.zero_le _, rfl, fun j u hj => by omega⟩
  case round =>
    obtain ⟨q, hq, rfl, hb⟩ := hrel
    have HB := Lib.hid hb
    clear hb
    by_cases hlt : q < n
    · obtain ⟨b, o, x, rfl, hbl, hg, hc1⟩ := hR.at_ (k := q) (by rw [Hn.out]; exact hlt)
      have HG := Lib.hid hg
      clear hg
      by_cases h1 : lo ≤ x
      · by_cases h2 : x ≤ hi
        · have HI := Lib.hid (show inB lo hi x = true from decide_eq_true ⟨h1, h2⟩)
          go_wp2
          go_round
          case rel => exact ⟨q + 1, by omega, by go_num, fun j u hj hu => by
            rcases (by omega : j < q ∨ j = q) with h | rfl
            · exact HB.out j u h hu
            · rw [HG.out] at hu; injection hu with hu; rw [← hu]; exact HI.out⟩
          case measure => simp [intOf]; omega
        · have h3 : hi < x := by omega
          have HI := Lib.hid (listB_out (k := k) (List.mem_of_getElem? HG.out) (show inB lo hi x = false from decide_eq_false (by omega)))
          clear h2
          go_wp2
          go_ret
          exact ⟨ret_bool HI.out.symm, rfl⟩
      · have h3 : x < lo := by omega
        have HI := Lib.hid (listB_out (k := k) (List.mem_of_getElem? HG.out) (show inB lo hi x = false from decide_eq_false (by omega)))
        clear h1
        go_wp2
        go_ret
        exact ⟨ret_bool HI.out.symm, rfl⟩
    · obtain rfl : q = n := by omega
      have HI := Lib.hid (listB_in (lo := lo) (hi := hi) (k := k) (fun j u hu => HB.out j u (by rw [← Hn.out]; exact (List.getElem?_eq_some_iff.1 hu).1) hu))
      rw [Hn.out] at HI
      go_wp2
      go_ret
      exact ⟨ret_bool HI.out.symm, rfl⟩
set_option maxHeartbeats 400000 in
theorem isList_any (A : Option Addr) (n c : Nat) (l : List Int) (k lo hi : Int) (w : World) (hR : Ints w A l) (hn : l.length = n) (hmax : n ≤ maxLen) :
    Calls Try.prog 116 #[.slice A n c, .int .i64 k, .int .i64 lo, .int .i64 hi] w fun e w' => e = .returned (.bool (listB lo hi l k)) ∧ w = w' := by
  have Hn := Lib.hid hn
  have hm : (n : Int) ≤ 9223372036854775807 := by unfold maxLen at hmax; omega
  clear hmax
  by_cases hk : (n : Int) = k
  · subst hk
    clear hn
    go_enter Try.func116, Try.ntmps116
    go_wp2
    go_loop [9] (fun i => ∃ q : Nat, q ≤ n ∧ i = .int .i64 q ∧ ∀ (j : Nat) (v : Int), j < q → l[j]? = some v → inB lo hi v = true) (fun i => n - (intOf i).toNat)
    case atStart => exact ⟨0, Nat.zero_le _, rfl, fun j u hj => by omega⟩
    case round =>
      obtain ⟨q, hq, rfl, hb⟩ := hrel
      have HB := Lib.hid hb
      clear hb
      by_cases hlt : q < n
      · obtain ⟨b, o, x, rfl, hbl, hg, hc1⟩ := hR.at_ (k := q) (by rw [Hn.out]; exact hlt)
        have HG := Lib.hid hg
        clear hg
        cases hx : inB lo hi x
        · have HX := Lib.hid hx
          have HI := Lib.hid (listB_out (k := (n : Int)) (List.mem_of_getElem? HG.out) hx)
          clear hx
          go_wp2_with fail
          refine (within_any x lo hi _).mono ?_
          rintro e w' ⟨rfl, rfl⟩
          rw [HX.out]
          go_wp2
          go_ret
          exact ⟨ret_bool HI.out.symm, rfl⟩
        · have HX := Lib.hid hx
          clear hx
          go_wp2_with fail
          refine (within_any x lo hi _).mono ?_
          rintro e w' ⟨rfl, rfl⟩
          rw [HX.out]
          go_wp2
          go_round
          case rel => exact ⟨q + 1, by omega, by go_num, fun j u hj hu => by
            rcases (by omega : j < q ∨ j = q) with h | rfl
            · exact HB.out j u h hu
            · rw [HG.out] at hu; injection hu with hu; rw [← hu]; exact HX.out⟩
          case measure => simp [intOf]; omega
      · obtain rfl : q = n := by omega
        have HI := Lib.hid (listB_in (lo := lo) (hi := hi) (k := (q : Int)) (fun j u hu => HB.out j u (by rw [← Hn.out]; exact (List.getElem?_eq_some_iff.1 hu).1) hu))
        rw [Hn.out] at HI
        go_wp2
        go_ret
        exact ⟨ret_bool (by rw [HI.out]; simp), rfl⟩
  · have hk2 : ((n : Int) == k) = false := by simpa using hk
    have hk3 : ((n : Int) != k) = true := by simpa using hk
    have HF := Lib.hid (show listB lo hi l k = false by unfold listB; rw [hn, hk2, Bool.and_false])
    clear hk hn
    go_enter Try.func116, Try.ntmps116
    go_wp2
    go_ret
    exact ⟨ret_bool HF.out.symm, rfl⟩
def sideB (n : Nat) : Bool := decide (1 ≤ n ∧ n ≤ 3)
theorem isSide_any (A : Option Addr) (n c : Nat) (w : World) : Calls Try.prog 78 #[.slice A n c] w fun e w' => e = .returned (.bool (sideB n)) ∧ w = w' := by
  by_cases h1 : 1 ≤ n
  · have i1 : (1 : Int) ≤ (n : Int) := by omega
    by_cases h2 : n ≤ 3
    · have i2 : (n : Int) ≤ 3 := by omega
      have HF := Lib.hid (show sideB n = true from decide_eq_true ⟨h1, h2⟩)
      go_enter Try.func78, Try.ntmps78
      go_wp2
      go_ret
      exact ⟨ret_bool HF.out.symm, rfl⟩
    · have i2 : 3 < (n : Int) := by omega
      have HF := Lib.hid (show sideB n = false from decide_eq_false (by omega))
      clear h2
      go_enter Try.func78, Try.ntmps78
      go_wp2
      go_ret
      exact ⟨ret_bool (by rw [HF.out]; simpa using i2), rfl⟩
  · obtain rfl : n = 0 := by omega
    go_enter Try.func78, Try.ntmps78
    go_wp2
    go_ret
    exact ⟨rfl, rfl⟩
/-- How many elements a side's first compound has. -/
def elN (X : List (List Int)) : Nat := (X.getD 0 []).length
theorem elN_at {X : List (List Int)} {ns : List Int} (h : X[0]? = some ns) : elN X = ns.length := by
  unfold elN; rw [List.getD_eq_getElem?_getD, h]; rfl
theorem elementsOf_any (A B : Option Addr) (n c m d : Nat) (X : List (List Int)) (w : World) (hX : Tab 0 w A X) (hn : X.length = n) (h1 : 1 ≤ n) :
    Calls Try.prog 79 #[.agg #[.slice A n c, .slice B m d]] w fun e w' => e = .returned (.int .i64 (elN X : Nat)) ∧ Bel w w' := by
  obtain ⟨b, o, ns, A', n', c', rfl, hbl, hg, hcell, hI, hl, hm⟩ := hX.at_ (k := 0) (by omega)
  have HG := Lib.hid (show elN X = n' by rw [elN_at hg, hl])
  rw [HG.out]
  have h0 : (0 : Int) < (n : Int) := by omega
  have hq : (w.alloc (.cells #[.slice (some ⟨b, o, none⟩) n c, .slice B m d] 24)).cell? ⟨b, o + 0, none⟩ = some (.slice A' n' c') := by rw [((Bel.refl w).alloc _).use.1 _ _ hbl]; exact hcell
  rw [Nat.add_zero] at hq
  clear hg hn hl hcell
  go_enter Try.func79, Try.ntmps79
  go_wp2
  go_ret
  exact ⟨rfl, by (repeat (first | exact Bel.refl _ | assumption | refine Bel.drew ?_ | refine Bel.drewN ?_ _ | refine Bel.alloc ?_ _ | refine Bel.setCell ?_ (by first | omega | (simp; done) | (simp; omega) | (simp at *; omega)) _ | refine Bel.trans ?_ (by assumption)))⟩
theorem compoundsOf_any (A B : Option Addr) (n c m d : Nat) (X Y : List (List Int)) (w : World) (hS : Strk w A n B m X Y) (n1 : 1 ≤ n) (n10 : n ≤ 10) (m1 : 1 ≤ m) (m10 : m ≤ 10) :
    Calls Try.prog 75 #[.agg #[.slice A n c, .slice B m d]] w (NewT w (X ++ Y)) := by
  obtain ⟨hX, hY, hn, hm⟩ := hS
  have HN := Lib.hid hn; have HM := Lib.hid hm
  clear hn hm
  go_enter Try.func75, Try.ntmps75
  go_wp2_with fail
  refine (concat_any _ A B n c m d X Y _ (by go_simp) (by go_simp) (by simp) (hX.bel (by (repeat (first | exact Bel.refl _ | assumption | refine Bel.drew ?_ | refine Bel.drewN ?_ _ | refine Bel.alloc ?_ _ | refine Bel.setCell ?_ (by first | omega | (simp; done) | (simp; omega) | (simp at *; omega)) _ | refine Bel.trans ?_ (by assumption))))) (hY.bel (by (repeat (first | exact Bel.refl _ | assumption | refine Bel.drew ?_ | refine Bel.drewN ?_ _ | refine Bel.alloc ?_ _ | refine Bel.setCell ?_ (by first | omega | (simp; done) | (simp; omega) | (simp at *; omega)) _ | refine Bel.trans ?_ (by assumption))))) HN.out HM.out n1 n10 m1 m10).mono ?_
  rintro e w1 ⟨A1, n1', c1, rfl, hn1, hb1, hT1⟩
  have HN1 := Lib.hid hn1
  clear hn1
  go_wp2
  go_ret
  exact ⟨A1, n1', c1, rfl, HN1.out, by (repeat (first | exact Bel.refl _ | assumption | refine Bel.drew ?_ | refine Bel.drewN ?_ _ | refine Bel.alloc ?_ _ | refine Bel.setCell ?_ (by first | omega | (simp; done) | (simp; omega) | (simp at *; omega)) _ | refine Bel.trans ?_ (by assumption))), hT1⟩
theorem many_any (A : Option Addr) (n c : Nat) (w : World) : Calls Try.prog 41 #[.slice A n c] w fun e w' => e = .returned (.bool (decide (100 < n))) ∧ w = w' := by
  by_cases h : 100 < n
  · have h2 : 100 < (n : Int) := by omega
    have HF := Lib.hid (decide_eq_true h)
    rw [HF.out]
    clear h
    go_enter Try.func41, Try.ntmps41
    go_wp2
    go_ret
    exact ⟨rfl, rfl⟩
  · have h2 : (n : Int) ≤ 100 := by omega
    have HF := Lib.hid (decide_eq_false h)
    rw [HF.out]
    clear h
    go_enter Try.func41, Try.ntmps41
    go_wp2
    go_ret
    exact ⟨ret_bool (by simpa using h2), rfl⟩
end Go.Proofs.Ytfjegdejfccgaaa
