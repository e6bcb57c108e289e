/- Lists compared, and sums of weights and times. -/
import Derived.Test.YtfjegdejfccgaaaZR
namespace Go.Proofs.Ytfjegdejfccgaaa
open Go.RowKit

theorem inOut {X Y : List (List Int)} {ts : List Int} (hz : errT X Y ts = 0) : decide (inV X Y ts = outV X Y ts) = balV X Y ts := by
  have e1 : inV X Y ts = inL X ts := by unfold inV; rw [if_pos hz]
  have e2 : outV X Y ts = outL X Y ts := by unfold outV; rw [if_pos hz]
  rw [e1, e2, bal_eq, balV_ok hz]
theorem mul_bd {a t : Int} (h1 : -36000000 ≤ a) (h2 : a ≤ 36000000) (h3 : -1000000 ≤ t) (h4 : t ≤ 1000000) : -36000000000000 ≤ a * t ∧ a * t ≤ 36000000000000 := by
  rcases Int.le_total 0 t with p | p
  · have e1 := Int.mul_le_mul_of_nonneg_right h2 p
    have e2 := Int.mul_le_mul_of_nonneg_right h1 p
    omega
  · have e1 := Int.mul_le_mul_of_nonpos_right h2 p
    have e2 := Int.mul_le_mul_of_nonpos_right h1 p
    omega
/-- A sum of weights times times, over the first compounds. -/
def swT (C : List (List Int)) (ws ts : List Int) (E : Nat) : Nat → Int
  | 0 => 0
  | i + 1 => swT C ws ts E i + rowTo (C.getD i []) ws E * ts.getD i 0
def exT (C : List (List Int)) (ws ts : List Int) (n : Nat) : Nat → Int
  | 0 => 0
  | e + 1 => exT C ws ts n e + ws.getD e 0 * dotTo C ts e n
theorem exT_zero (C : List (List Int)) (ws ts : List Int) : ∀ E, exT C ws ts 0 E = 0 := by
  intro E
  induction E with
  | zero => rfl
  | succ E ih => simp only [exT, ih, dotTo]; simp
theorem exT_step (C : List (List Int)) (ws ts : List Int) (n : Nat) : ∀ E, exT C ws ts (n + 1) E = exT C ws ts n E + rowTo (C.getD n []) ws E * ts.getD n 0 := by
  intro E
  induction E with
  | zero => simp [exT, rowTo]
  | succ E ih =>
    simp only [exT, rowTo, dotTo]
    rw [ih, Int.mul_add, Int.add_mul]
    have : ws.getD E 0 * ((C.getD n []).getD E 0 * ts.getD n 0) = (C.getD n []).getD E 0 * ws.getD E 0 * ts.getD n 0 := by
      rw [← Int.mul_assoc, Int.mul_comm (ws.getD E 0)]
    omega
theorem swT_ex (C : List (List Int)) (ws ts : List Int) (E : Nat) : ∀ n, swT C ws ts E n = exT C ws ts n E := by
  intro n
  induction n with
  | zero => rw [exT_zero]; rfl
  | succ n ih => rw [exT_step, ← ih]; rfl
theorem exT_bal {C : List (List Int)} {ws ts : List Int} {n : Nat} : ∀ E, (∀ e, e < E → dotTo C ts e n = 0) → exT C ws ts n E = 0 := by
  intro E
  induction E with
  | zero => intro _; rfl
  | succ E ih =>
    intro h
    simp only [exT]
    rw [ih fun e he => h e (by omega), h E (by omega)]
    simp
theorem swT_bal {X Y : List (List Int)} {ws ts : List Int} (h : balB X Y ts = true) : swT (colL X Y) ws ts (elN X) (X.length + Y.length) = 0 := by
  rw [swT_ex]
  refine exT_bal _ fun e he => ?_
  unfold balB at h
  rw [List.all_eq_true] at h
  have := h e (List.mem_range.2 he)
  simpa using this
theorem row_neg (r ws : List Int) : ∀ E, rowTo (negL r) ws E = - rowTo r ws E := by
  intro E
  induction E with
  | zero => rfl
  | succ E ih =>
    have hg : (negL r).getD E 0 = - r.getD E 0 := by
      simp only [negL, List.getD_eq_getElem?_getD, List.getElem?_map]
      cases r[E]? <;> simp
    simp only [rowTo]
    rw [ih, hg, Int.neg_mul]
    omega
/-- What a round of the law's loop adds. -/
theorem sw_in {X Y : List (List Int)} {ws ts : List Int} {i : Nat} {a t : Int} (hi : i < X.length) (ha : (weighL X Y ws)[i]? = some a) (ht : ts[i]? = some t) :
    swT (colL X Y) ws ts (elN X) (i + 1) = swT (colL X Y) ws ts (elN X) i + a * t := by
  have h1 : (colL X Y).getD i [] = X[i] := by rw [colL, List.getD_eq_getElem?_getD, List.getElem?_append_left hi, List.getElem?_eq_getElem hi]; rfl
  have h2 : a = rowTo X[i] ws (elN X) := by
    simp only [weighL, List.getElem?_map, List.getElem?_append_left hi, List.getElem?_eq_getElem hi] at ha
    simpa using ha.symm
  simp only [swT]
  rw [h1, ← h2, List.getD_eq_getElem?_getD, ht]
  rfl
theorem sw_out {X Y : List (List Int)} {ws ts : List Int} {i : Nat} {a t : Int} (hi : X.length ≤ i) (hi2 : i < X.length + Y.length) (ha : (weighL X Y ws)[i]? = some a) (ht : ts[i]? = some t) :
    swT (colL X Y) ws ts (elN X) (i + 1) = swT (colL X Y) ws ts (elN X) i - a * t := by
  have hj : i - X.length < Y.length := by omega
  have h1 : (colL X Y).getD i [] = negL Y[i - X.length] := by
    simp [colL, List.getD_eq_getElem?_getD, List.getElem?_append_right hi, hj]
  have h2 : a = rowTo Y[i - X.length] ws (elN X) := by
    simp only [weighL, List.getElem?_map, List.getElem?_append_right hi, List.getElem?_eq_getElem hj] at ha
    simpa using ha.symm
  simp only [swT]
  rw [h1, row_neg, ← h2, List.getD_eq_getElem?_getD, ht]
  simp [Int.neg_mul]
  omega
theorem swT_bd {C : List (List Int)} {ws ts : List Int} {E : Nat} (hw : ∀ i, -36000000 ≤ rowTo (C.getD i []) ws E ∧ rowTo (C.getD i []) ws E ≤ 36000000) (ht : ∀ i, -1000000 ≤ ts.getD i 0 ∧ ts.getD i 0 ≤ 1000000) :
    ∀ n : Nat, -(36000000000000 * (n : Int)) ≤ swT C ws ts E n ∧ swT C ws ts E n ≤ 36000000000000 * (n : Int) := by
  intro n
  induction n with
  | zero => simp [swT]
  | succ n ih =>
    obtain ⟨h1, h2⟩ := hw n
    obtain ⟨h3, h4⟩ := ht n
    have := mul_bd h1 h2 h3 h4
    simp only [swT]
    omega
theorem row_bds {X Y : List (List Int)} {ws : List Int} (h : errW X Y ws = 0) : (∀ i, -36000000 ≤ rowTo ((colL X Y).getD i []) ws (elN X) ∧ rowTo ((colL X Y).getD i []) ws (elN X) ≤ 36000000) ∧ ∀ a ∈ weighL X Y ws, -36000000 ≤ a ∧ a ≤ 36000000 := by
  rcases errW_cases X Y ws with ⟨hs, hb, _⟩ | k
  · have s := str_of hs
    obtain ⟨wb, -⟩ := listB_yes hb
    have he := s.e4
    have hrow : ∀ r ∈ X ++ Y, -36000000 ≤ rowTo r ws (elN X) ∧ rowTo r ws (elN X) ≤ 36000000 := by
      intro r hr
      have := row_bd (s.rows r hr).2.1 wb (elN X)
      have h4 : ((elN X : Nat) : Int) ≤ 4 := by omega
      omega
    refine ⟨fun i => ?_, fun a ha => ?_⟩
    · rcases Nat.lt_or_ge i (colL X Y).length with hl | hl
      · have hm : (colL X Y).getD i [] ∈ colL X Y := by
          rw [List.getD_eq_getElem?_getD, List.getElem?_eq_getElem hl]
          exact List.getElem_mem hl
        obtain ⟨r, hr⟩ : ∃ r, r = (colL X Y).getD i [] := ⟨_, rfl⟩
        rw [← hr] at hm ⊢
        unfold colL at hm
        rcases List.mem_append.1 hm with hx | hy
        · exact hrow r (List.mem_append_left _ hx)
        · obtain ⟨r', hr', rfl⟩ := List.mem_map.1 hy
          have := hrow r' (List.mem_append_right _ hr')
          rw [row_neg]
          omega
      · have hn : (colL X Y).getD i [] = [] := by rw [List.getD_eq_getElem?_getD, List.getElem?_eq_none hl]; rfl
        rw [hn]
        have hz : ∀ E, rowTo [] ws E = 0 := by
          intro E
          induction E with
          | zero => rfl
          | succ E ih => simp [rowTo, ih]
        rw [hz]
        omega
    · unfold weighL at ha
      obtain ⟨r, hr, rfl⟩ := List.mem_map.1 ha
      exact hrow r hr
  · rw [h] at k; cases k
theorem sw_ok {X Y : List (List Int)} {ws ts : List Int} (h : errW X Y ws = 0) (k : errT X Y ts = 0) (n : Nat) (hn : n ≤ 6) :
    -216000000000000 ≤ swT (colL X Y) ws ts (elN X) n ∧ swT (colL X Y) ws ts (elN X) n ≤ 216000000000000 := by
  obtain ⟨tb, -⟩ := tm_of (tmB_zero k)
  have := swT_bd (row_bds h).1 (fun i => getD_in tb (by omega) (by omega) i) n
  omega
set_option maxRecDepth 100000 in
set_option maxHeartbeats 1000000 in
theorem sameInts_all (A B : Option Addr) (n c m d : Nat) (l k : List Int) (w : World) (hA : Ints w A l) (hB : Ints w B k) (hn : l.length = n) (hm : k.length = m) (hmax : n ≤ maxLen) :
    Calls Try.prog 46 #[.slice A n c, .slice B m d] w fun e w' => e = .returned (.bool (decide (l = k))) ∧ Bel w w' := by
  have h63 : (n : Int) ≤ 9223372036854775807 := by unfold maxLen at hmax; omega
  by_cases hnm : n = m
  · subst hnm
    have Hn := Lib.hid hn; have Hm := Lib.hid hm
    have hne : ((n : Int) != (n : Int)) = false := by simp
    clear hn hm hmax
    go_enter Try.func46, Try.ntmps46
    go_wp2
    go_loopw [5] (fun i wr => ∃ q : Nat, q ≤ n ∧ i = .int .i64 q ∧ Bel w wr ∧ ∀ j, j < q → l[j]? = k[j]?) (fun i _ => n - (intOf i).toNat)
    case atStart => exact ⟨0, Nat.zero_le _, rfl, Bel.refl _, fun j hj => by omega⟩
    case round =>
      obtain ⟨q, hq, rfl, hb, hz⟩ := hrel
      have HZ := Lib.hid hz
      clear hz
      by_cases hlt : q < n
      · obtain ⟨b, o, s, rfl, hbl, hg, hc1⟩ := (hA.bel hb).at_ (k := q) (by rw [Hn.out]; exact hlt)
        obtain ⟨b', o', s', rfl, hbl', hg', hc1'⟩ := (hB.bel hb).at_ (k := q) (by rw [Hm.out]; exact hlt)
        have HG := Lib.hid hg; have HG' := Lib.hid hg'
        have hkn : (q : Int) < (n : Int) := by omega
        clear hg hg'
        by_cases hs : s = s'
        · subst hs
          have hsx : (s != s) = false := by simp
          go_wp2
          go_quiet (fail)
          go_wp2
          go_roundw
          case rel => exact ⟨q + 1, by omega, by go_num, by (repeat (first | exact Bel.refl _ | assumption | refine Bel.drew ?_ | refine Bel.drewN ?_ _ | refine Bel.alloc ?_ _ | refine Bel.setCell ?_ (by first | omega | (simp; done) | (simp; omega) | (simp at *; omega)) _ | refine Bel.trans ?_ (by assumption))), fun j hj => by
            rcases (by omega : j < q ∨ j = q) with h | rfl
            · exact HZ.out j h
            · rw [HG.out, HG'.out]⟩
          case measure => simp [intOf]; omega
        · have hsx : (s != s') = true := by simpa using hs
          have HF := Lib.hid (show decide (l = k) = false from decide_eq_false (fun e => by
            have h1 := HG.out
            rw [e, HG'.out] at h1
            injection h1 with h1
            exact hs h1.symm))
          clear hs
          go_wp2
          go_quiet (fail)
          go_wp2
          go_ret
          exact ⟨ret_bool HF.out.symm, by (repeat (first | exact Bel.refl _ | assumption | refine Bel.drew ?_ | refine Bel.drewN ?_ _ | refine Bel.alloc ?_ _ | refine Bel.setCell ?_ (by first | omega | (simp; done) | (simp; omega) | (simp at *; omega)) _ | refine Bel.trans ?_ (by assumption)))⟩
      · obtain rfl : q = n := by omega
        have HF := Lib.hid (show decide (l = k) = true from decide_eq_true (List.ext_getElem? fun j => by
          by_cases hj : j < q
          · exact HZ.out j hj
          · rw [List.getElem?_eq_none (by rw [Hn.out]; omega), List.getElem?_eq_none (by rw [Hm.out]; omega)]))
        go_wp2
        go_ret
        exact ⟨ret_bool HF.out.symm, by (repeat (first | exact Bel.refl _ | assumption | refine Bel.drew ?_ | refine Bel.drewN ?_ _ | refine Bel.alloc ?_ _ | refine Bel.setCell ?_ (by first | omega | (simp; done) | (simp; omega) | (simp at *; omega)) _ | refine Bel.trans ?_ (by assumption)))⟩
  · have hne : ((n : Int) != (m : Int)) = true := by simpa using (show ¬ (n : Int) = (m : Int) by omega)
    have hne2 : (n != m) = true := by simpa using hnm
    have HF := Lib.hid (show decide (l = k) = false from decide_eq_false (fun e => by rw [e] at hn; omega))
    clear hnm hn hm
    go_enter Try.func46, Try.ntmps46
    go_wp2
    go_ret
    exact ⟨ret_bool HF.out.symm, by (repeat (first | exact Bel.refl _ | assumption | refine Bel.drew ?_ | refine Bel.drewN ?_ _ | refine Bel.alloc ?_ _ | refine Bel.setCell ?_ (by first | omega | (simp; done) | (simp; omega) | (simp at *; omega)) _ | refine Bel.trans ?_ (by assumption)))⟩
end Go.Proofs.Ytfjegdejfccgaaa
