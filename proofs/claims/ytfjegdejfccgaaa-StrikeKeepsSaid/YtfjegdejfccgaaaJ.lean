/- strike: sums of atoms and times; validateTimes. -/
import Derived.Test.YtfjegdejfccgaaaI
namespace Go.Proofs.Ytfjegdejfccgaaa
open Go.RowKit

/-- The sum of the atoms of an element and times, over the first compounds. -/
def dotTo (X : List (List Int)) (ts : List Int) (k : Nat) : Nat → Int
  | 0 => 0
  | i + 1 => dotTo X ts k i + (X.getD i []).getD k 0 * ts.getD i 0
theorem mul9 {x t : Int} (h0 : 0 ≤ x) (h9 : x ≤ 9) (t1 : -1000000 ≤ t) (t2 : t ≤ 1000000) : -9000000 ≤ x * t ∧ x * t ≤ 9000000 := by
  have : x = 0 ∨ x = 1 ∨ x = 2 ∨ x = 3 ∨ x = 4 ∨ x = 5 ∨ x = 6 ∨ x = 7 ∨ x = 8 ∨ x = 9 := by omega
  rcases this with rfl | rfl | rfl | rfl | rfl | rfl | rfl | rfl | rfl | rfl <;> omega
theorem getD_in {l : List Int} {lo hi : Int} (h : ∀ a ∈ l, lo ≤ a ∧ a ≤ hi) (h0 : lo ≤ 0) (h1 : 0 ≤ hi) (k : Nat) : lo ≤ l.getD k 0 ∧ l.getD k 0 ≤ hi := by
  rw [List.getD_eq_getElem?_getD]
  cases e : l[k]? with
  | none => exact ⟨h0, h1⟩
  | some u => exact h u (List.mem_of_getElem? e)
theorem row_in {X : List (List Int)} (h : ∀ r ∈ X, ∀ a ∈ r, 0 ≤ a ∧ a ≤ 9) (i : Nat) : ∀ a ∈ X.getD i [], 0 ≤ a ∧ a ≤ 9 := by
  rw [List.getD_eq_getElem?_getD]
  cases e : X[i]? with
  | none => intro a ha; cases ha
  | some r => exact h r (List.mem_of_getElem? e)
theorem dot_bd {X : List (List Int)} {ts : List Int} (hX : ∀ r ∈ X, ∀ a ∈ r, 0 ≤ a ∧ a ≤ 9) (ht : ∀ t ∈ ts, -1000000 ≤ t ∧ t ≤ 1000000) (k i : Nat) : -((i : Int) * 9000000) ≤ dotTo X ts k i ∧ dotTo X ts k i ≤ (i : Int) * 9000000 := by
  induction i with
  | zero => simp [dotTo]
  | succ i ih =>
    have h1 := getD_in (row_in hX i) (by omega) (by omega) k
    have h2 := getD_in ht (by omega) (by omega) i
    have h3 := mul9 h1.1 h1.2 h2.1 h2.2
    simp only [dotTo]
    generalize (X.getD i []).getD k 0 * ts.getD i 0 = R at *
    omega
theorem getD_at {l : List Int} {k : Nat} {v : Int} (h : l[k]? = some v) : l.getD k 0 = v := by rw [List.getD_eq_getElem?_getD, h]; rfl
theorem getT_at {X : List (List Int)} {k : Nat} {r : List Int} (h : X[k]? = some r) : X.getD k [] = r := by rw [List.getD_eq_getElem?_getD, h]; rfl
theorem dot_step {X : List (List Int)} {ts : List Int} {i k : Nat} {r : List Int} {x t : Int} (hr : X[i]? = some r) (hx : r[k]? = some x) (ht : ts[i]? = some t) : dotTo X ts k (i + 1) = dotTo X ts k i + x * t := by
  rw [dotTo, getT_at hr, getD_at hx, getD_at ht]
set_option maxRecDepth 100000 in
set_option maxHeartbeats 1000000 in
theorem sums_any (A B : Option Addr) (n c m d : Nat) (X : List (List Int)) (ts : List Int) (E : Nat) (w : World) (hX : Tab 0 w A X) (hT : Ints w B ts) (hn : X.length = n) (hm : ts.length = m) (hnm : m = n) (n1 : 1 ≤ n) (n3 : n ≤ 3)
    (hE : ∀ r ∈ X, r.length = E) (hXb : ∀ r ∈ X, ∀ a ∈ r, 0 ≤ a ∧ a ≤ 9) (ht : ∀ t ∈ ts, -1000000 ≤ t ∧ t ≤ 1000000) (_E1 : 1 ≤ E) (E4 : E ≤ 4) :
    Calls Try.prog 102 #[.slice A n c, .slice B m d] w (News w ((List.range E).map fun k => dotTo X ts k n)) := by
  subst hnm
  have HN := Lib.hid hn; have HM := Lib.hid hm
  have HE := Lib.hid hE; have HX := Lib.hid hXb; have HT := Lib.hid ht
  have HD := Lib.hid (fun k i => dot_bd hXb ht k i)
  have hmk : ∀ W : World, (Instr.makeSlice 28 (.int .i64 (E : Int)) (.int .i64 (E : Int))).run Try.prog W = .ok (.slice (some ⟨W.heap.size, 0, none⟩) E E) (W.alloc (.cells (madeCells #[.int .i64 0] E) 3)) := by
    have := fun W : World => run_make_row' (P := Try.prog) 28 3 (.int .i64 0) 8 Try.underlying28 infoInt rfl .i64 .i64 E (by omega) (by omega) W
    simpa using this
  have hrow : Row (w.alloc (.cells (madeCells #[.int .i64 0] E) 3)) w.heap.size E E (fun k => dotTo X ts k 0) := Row.whole _ _ _ _ _ fun i hi => made_int E i hi
  have hb0 : Bel w (w.alloc (.cells (madeCells #[.int .i64 0] E) 3)) := by (repeat (first | exact Bel.refl _ | assumption | refine Bel.drew ?_ | refine Bel.drewN ?_ _ | refine Bel.alloc ?_ _ | refine Bel.setCell ?_ (by first | omega | (simp; done) | (simp; omega) | (simp at *; omega)) _ | refine Bel.trans ?_ (by assumption)))
  generalize madeCells #[.int .i64 0] E = C at *
  obtain ⟨b, o, r0, A0, n0, c0, rfl, hbl, hg0, hcell0, hI0, hl0, hm0⟩ := hX.at_ (k := 0) (by rw [HN.out]; exact n1)
  obtain rfl : n0 = E := by rw [← hl0]; exact HE.out r0 (List.mem_of_getElem? hg0)
  have hm1 : (0 : Int) < (m : Int) := by omega
  have hm3 : (m : Int) ≤ 3 := by omega
  have hE4 : (n0 : Int) ≤ 4 := by omega
  rw [Nat.add_zero] at hcell0
  clear hn hm hE hXb ht hg0 hl0 hI0
  go_enter Try.func102, Try.ntmps102
  go_wp2
  go_loopw [17] (fun i wr => ∃ q : Nat, q ≤ m ∧ i = .int .i64 q ∧ Bel w wr ∧ Row wr w.heap.size n0 n0 (fun k => dotTo X ts k q)) (fun i _ => m - (intOf i).toNat)
  case atStart => exact ⟨0, Nat.zero_le _, rfl, hb0, hrow⟩
  case round =>
    clear hrow hb0 hmk hcell0
    obtain ⟨q, hq, rfl, hb, hr⟩ := hrel
    by_cases hlt : q < m
    · have hqm : (q : Int) < (m : Int) := by omega
      obtain ⟨b', o', r, A', n', c', hA, hbl', hg, hcell, hI, hl, hmm⟩ := hX.at_ (k := q) (by rw [HN.out]; exact hlt)
      have hcell' : wr.cell? ⟨b', o' + q, none⟩ = some (.slice A' n' c') := by rw [hb.use.1 _ _ hbl']; exact hcell
      injection hA with hA
      injection hA with e1 e2
      subst e1 e2
      obtain rfl : n' = n0 := by rw [← hl]; exact HE.out r (List.mem_of_getElem? hg)
      obtain ⟨bt, ot, t, rfl, hbt, hgt, hct⟩ := hT.at_ (k := q) (by rw [HM.out]; exact hlt)
      have htb := HT.out t (List.mem_of_getElem? hgt)
      obtain ⟨t1, t2⟩ := htb
      have HG := Lib.hid hg; have HGT := Lib.hid hgt; have HL := Lib.hid hl
      have hq3 : ((q : Int) + 1) * 9000000 ≤ 27000000 := by omega
      have HR0 : Hid (Row wr w.heap.size n' n' (fun k => if k < 0 then dotTo X ts k (q + 1) else dotTo X ts k q)) := hr.congr (fun i _ => by rw [if_neg (by omega)])
      obtain ⟨wo, hwo⟩ : ∃ wo : World, wo = wr := ⟨_, rfl⟩
      subst hwo
      clear hg hgt hl hr hcell
      go_wp2
      go_loopw [24] (fun i wr => ∃ j : Nat, j ≤ n' ∧ i = .int .i64 j ∧ Bel w wr ∧ Row wr w.heap.size n' n' (fun k => if k < j then dotTo X ts k (q + 1) else dotTo X ts k q)) (fun i _ => n' - (intOf i).toNat)
      case atStart => exact ⟨0, Nat.zero_le _, rfl, hb, HR0.out⟩
      case round =>
        clear HR0 hcell'
        obtain ⟨j, hj, rfl, hb2, hr⟩ := hrel
        by_cases hjl : j < n'
        · have hjn : (j : Int) < (n' : Int) := by omega
          obtain ⟨b3, o3, x, rfl, hb3, hg3, hc3⟩ := (hI.bel hb2).at_ (k := j) (by rw [HL.out]; exact hjl)
          have hx := HX.out r (List.mem_of_getElem? HG.out) x (List.mem_of_getElem? hg3)
          obtain ⟨x0, x9⟩ := hx
          obtain ⟨p1, p2⟩ := mul9 x0 x9 t1 t2
          have HS := Lib.hid (dot_step HG.out hg3 HGT.out)
          have hv := HD.out j q
          obtain ⟨v, hvv⟩ : ∃ v, v = dotTo X ts j q := ⟨_, rfl⟩
          rw [← hvv] at hv
          obtain ⟨v1, v2⟩ := hv
          have hc4 := hr.cells j hjl
          rw [if_neg (Nat.lt_irrefl j), ← hvv] at hc4
          have hfz := hr.fz j
          have hlt1 := hr.lt
          have HV := Lib.hid hvv
          have HR2 := Lib.hid ((hr.put hjl (v + x * t)).congr (f' := fun k => if k < j + 1 then dotTo X ts k (q + 1) else dotTo X ts k q) (fun k _ => by
            by_cases h1 : k = j
            · subst h1
              rw [if_pos (by omega), if_pos rfl, HS.out, HV.out]
            · rw [if_neg h1]
              by_cases h2 : k < j
              · rw [if_pos (by omega), if_pos h2]
              · rw [if_neg (by omega), if_neg h2]))
          have hct2 : wr.cell? ⟨bt, ot + q, none⟩ = some (.int .i64 t) := by rw [hb2.use.1 _ _ hbt]; exact hct
          have hb4 := Lib.hid (show Bel w (wr.setCell ⟨w.heap.size, j, none⟩ (.int .i64 (v + x * t))).drew by (repeat (first | exact Bel.refl _ | assumption | refine Bel.drew ?_ | refine Bel.drewN ?_ _ | refine Bel.alloc ?_ _ | refine Bel.setCell ?_ (by first | omega | (simp; done) | (simp; omega) | (simp at *; omega)) _ | refine Bel.trans ?_ (by assumption))))
          clear hg3 hvv hr hct hbt
          go_wp2
          go_region
          go_wp2
          go_roundw
          case rel => exact ⟨j + 1, by omega, by go_num, hb4.out, HR2.out.drew⟩
          case measure => simp [intOf]; omega
        · obtain rfl : j = n' := by omega
          have HR2 := Lib.hid (hr.congr (f' := fun k => dotTo X ts k (q + 1)) (fun k hk => by rw [if_pos hk]))
          clear hr
          go_wp2
          go_roundw
          case rel => exact ⟨q + 1, by omega, by go_num, hb2, HR2.out⟩
          case measure => simp [intOf]; omega
    · obtain rfl : q = m := by omega
      have HI := Lib.hid hr.ints
      clear hr
      go_wp2
      go_ret
      exact ⟨_, _, _, rfl, by simp, hb, HI.out⟩
end Go.Proofs.Ytfjegdejfccgaaa
