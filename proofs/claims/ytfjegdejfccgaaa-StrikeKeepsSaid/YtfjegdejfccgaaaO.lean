/- The document's balances and Balances. -/
import Derived.Test.YtfjegdejfccgaaaN
namespace Go.Proofs.Ytfjegdejfccgaaa
open Go.RowKit

theorem mul9s {x t : Int} (h0 : -9 ≤ x) (h9 : x ≤ 9) (t1 : -1000000 ≤ t) (t2 : t ≤ 1000000) : -9000000 ≤ x * t ∧ x * t ≤ 9000000 := by
  rcases Int.le_total 0 x with h | h
  · exact mul9 h h9 t1 t2
  · have := mul9 (x := -x) (t := t) (by omega) (by omega) t1 t2
    rw [Int.neg_mul] at this
    omega
theorem rowS_in {X : List (List Int)} (h : ∀ r ∈ X, ∀ a ∈ r, -9 ≤ a ∧ a ≤ 9) (i : Nat) : ∀ a ∈ X.getD i [], -9 ≤ a ∧ a ≤ 9 := by
  rw [List.getD_eq_getElem?_getD]
  cases e : X[i]? with
  | none => intro a ha; cases ha
  | some r => exact h r (List.mem_of_getElem? e)
theorem dotS_bd {X : List (List Int)} {ts : List Int} (hX : ∀ r ∈ X, ∀ a ∈ r, -9 ≤ a ∧ a ≤ 9) (ht : ∀ t ∈ ts, -1000000 ≤ t ∧ t ≤ 1000000) (k i : Nat) : -((i : Int) * 9000000) ≤ dotTo X ts k i ∧ dotTo X ts k i ≤ (i : Int) * 9000000 := by
  induction i with
  | zero => simp [dotTo]
  | succ i ih =>
    have h1 := getD_in (rowS_in hX i) (by omega) (by omega) k
    have h2 := getD_in ht (by omega) (by omega) i
    have h3 := mul9s h1.1 h1.2 h2.1 h2.2
    simp only [dotTo]
    generalize (X.getD i []).getD k 0 * ts.getD i 0 = R at *
    omega
theorem colL_mem {X Y : List (List Int)} {E : Nat} (h : Str X Y E) : ∀ r ∈ colL X Y, r.length = E ∧ ∀ a ∈ r, -9 ≤ a ∧ a ≤ 9 := by
  intro r hr
  unfold colL at hr
  rcases List.mem_append.1 hr with hr | hr
  · have := h.rows r (by simp [hr])
    exact ⟨this.1, fun a ha => by have := this.2.1 a ha; omega⟩
  · obtain ⟨q, hq, rfl⟩ := List.mem_map.1 hr
    have := h.rows q (by simp [hq])
    refine ⟨by unfold negL; rw [List.length_map]; exact this.1, fun a ha => ?_⟩
    obtain ⟨x, hx, rfl⟩ := List.mem_map.1 ha
    have := this.2.1 x hx
    omega
/-- Do times balance? -/
def balB (X Y : List (List Int)) (ts : List Int) : Bool := (List.range (elN X)).all fun e => dotTo (colL X Y) ts e (X.length + Y.length) == 0
theorem bal_yes {X Y : List (List Int)} {ts : List Int} (h : ∀ e, e < elN X → dotTo (colL X Y) ts e (X.length + Y.length) = 0) : balB X Y ts = true := by
  unfold balB
  rw [List.all_eq_true]
  intro e he
  rw [h e (List.mem_range.1 he)]
  rfl
theorem bal_no {X Y : List (List Int)} {ts : List Int} {e : Nat} (he : e < elN X) (h : dotTo (colL X Y) ts e (X.length + Y.length) ≠ 0) : balB X Y ts = false := by
  rw [Bool.eq_false_iff]
  intro hb
  unfold balB at hb
  have := List.all_eq_true.1 hb e (List.mem_range.2 he)
  exact h (by simpa using this)
set_option maxRecDepth 100000 in
set_option maxHeartbeats 2000000 in
theorem rbalances_any (A B : Option Addr) (n c m d : Nat) (X Y : List (List Int)) (T : Option Addr) (t u : Nat) (ts : List Int) (w : World) (hS : Strk w A n B m X Y) (hT : Ints w T ts) (ht : ts.length = t) (he : errS X Y = 0) (hb : tmB X Y ts = true) :
    Calls Try.prog 84 #[.agg #[.slice A n c, .slice B m d], .slice T t u] w fun e w' => e = .returned (.bool (balB X Y ts)) ∧ Bel w w' := by
  have hSt := str_of he
  obtain ⟨tb, tl⟩ := tm_of hb
  have HX := Lib.hid hS.lx; have HY := Lib.hid hS.ly
  have htn : t = n + m := by rw [← ht, tl, HX.out, HY.out]
  have n1 : 1 ≤ n := by rw [← HX.out]; exact hSt.x1
  have n3 : n ≤ 3 := by rw [← HX.out]; exact hSt.x3
  have m3 : m ≤ 3 := by rw [← HY.out]; exact hSt.y3
  have HCM := Lib.hid (colL_mem hSt)
  have HTB := Lib.hid tb
  have Ht := Lib.hid ht
  have HD := Lib.hid (fun k i => dotS_bd (fun r hr => (colL_mem hSt r hr).2) tb k i)
  have HYES := Lib.hid (bal_yes (X := X) (Y := Y) (ts := ts))
  have HNO := Lib.hid (fun e => bal_no (X := X) (Y := Y) (ts := ts) (e := e))
  rw [HX.out, HY.out] at HYES HNO
  obtain ⟨E, hE⟩ : ∃ E, E = elN X := ⟨_, rfl⟩
  rw [← hE] at HYES HNO HCM
  have e1 : 1 ≤ E := by rw [hE]; exact hSt.e1
  have e4 : E ≤ 4 := by rw [hE]; exact hSt.e4
  have HE0 := Lib.hid he
  have HCL := Lib.hid (show (colL X Y).length = n + m by rw [colL_len, HX.out, HY.out])
  have hni : (n : Int) ≤ 3 := by omega
  have hmi : (m : Int) ≤ 3 := by omega
  have hE4 : (E : Int) ≤ 4 := by omega
  have HTN := Lib.hid htn
  clear hSt tb tl ht hE he hb
  go_enter Try.func84, Try.ntmps84
  go_wp2_with fail
  refine (columns_any A B n c m d X Y _ (hS.bel (by (repeat (first | exact Bel.refl _ | assumption | refine Bel.drew ?_ | refine Bel.drewN ?_ _ | refine Bel.alloc ?_ _ | refine Bel.setCell ?_ (by first | omega | (simp; done) | (simp; omega) | (simp at *; omega)) _ | refine Bel.trans ?_ (by assumption))))) HE0.out).mono ?_
  rintro e w1 ⟨A1, N, c1, rfl, hN, hb1, hT1⟩
  have hNn : N = n + m := by rw [hN, HCL.out]
  have HN := Lib.hid hNn
  have hN6 : N ≤ 6 := by omega
  have hN0 : 1 ≤ N := by omega
  have hN6i : (N : Int) ≤ 6 := by omega
  have hN0i : (0 : Int) < (N : Int) := by omega
  have htN : (t : Int) = (N : Int) := by omega
  have hw1 : Bel w w1 := ((Bel.refl w).alloc _).trans hb1
  obtain ⟨b, o, r0, A0, n0, c0, rfl, hbl, hg0, hcell0, hI0, hl0, hm0⟩ := hT1.at_ (k := 0) (by rw [HCL.out]; omega)
  obtain rfl : n0 = E := by rw [← hl0]; exact (HCM.out r0 (List.mem_of_getElem? hg0)).1
  rw [Nat.add_zero] at hcell0
  have HC0 := Lib.hid (fun w' (h : Bel w1 w') => show w'.cell? ⟨b, o, none⟩ = some (.slice A0 n0 c0) from by rw [h.use.1 _ _ hbl]; exact hcell0)
  have HTT := Lib.hid htN
  have hcz := HC0.out _ (Bel.refl _)
  clear htN hN hNn hg0 hl0 hI0 hcell0 htn
  go_wp2
  go_loopw [6] (fun i wr => ∃ e : Nat, e ≤ n0 ∧ i = .int .i64 e ∧ Bel w1 wr ∧ ∀ j, j < e → dotTo (colL X Y) ts j (n + m) = 0) (fun i _ => n0 - (intOf i).toNat)
  case atStart => exact ⟨0, Nat.zero_le _, rfl, Bel.refl _, fun j hj => by omega⟩
  case round =>
    clear hcz
    obtain ⟨e, hee, rfl, hbr, hz⟩ := hrel
    have HZ := Lib.hid hz
    have hcz := HC0.out _ hbr
    clear hz
    by_cases hlt : e < n0
    · have hei : (e : Int) < (n0 : Int) := by omega
      have HD0 := Lib.hid (fun i => HD.out e i)
      obtain ⟨wo, hwo⟩ : ∃ wo : World, wo = wr := ⟨_, rfl⟩
      subst hwo
      go_wp2
      go_loopw [7, 8] (fun s i wr => ∃ q : Nat, q ≤ N ∧ i = .int .i64 q ∧ s = .int .i64 (dotTo (colL X Y) ts e q) ∧ Bel w1 wr) (fun _ i _ => N - (intOf i).toNat)
      case atStart => exact ⟨0, Nat.zero_le _, rfl, rfl, hbr⟩
      case round =>
        clear hcz hbr
        obtain ⟨q, hq, rfl, rfl, hbr⟩ := hrel
        by_cases hql : q < N
        · have hqi : (q : Int) < (N : Int) := by omega
          obtain ⟨b2, o2, r, A2, n2, c2, hA2, hbl2, hg, hcell, hI, hl, hmm⟩ := hT1.at_ (k := q) (by rw [HCL.out, ← HN.out]; exact hql)
          injection hA2 with hA2
          injection hA2 with e1 e2
          subst e1 e2
          obtain rfl : n2 = n0 := by rw [← hl]; exact (HCM.out r (List.mem_of_getElem? hg)).1
          have hcell' : wr.cell? ⟨b, o + q, none⟩ = some (.slice A2 n2 c2) := by rw [hbr.use.1 _ _ hbl2]; exact hcell
          obtain ⟨b3, o3, x, rfl, hbl3, hg3, hc3⟩ := (hI.bel hbr).at_ (k := e) (by rw [hl]; exact hlt)
          obtain ⟨b4, o4, y, rfl, hbl4, hg4, hc4⟩ := (hT.bel (hw1.trans hbr)).at_ (k := q) (by rw [Ht.out]; have := HTT.out; omega)
          have hqt : (q : Int) < (t : Int) := by have := HTT.out; omega
          have ht6 : (t : Int) ≤ 6 := by have := HTT.out; omega
          obtain ⟨x0, x9⟩ := (HCM.out r (List.mem_of_getElem? hg)).2 x (List.mem_of_getElem? hg3)
          obtain ⟨y0, y9⟩ := HTB.out y (List.mem_of_getElem? hg4)
          obtain ⟨p1, p2⟩ := mul9s x0 x9 y0 y9
          have HS := Lib.hid (dot_step hg hg3 hg4)
          obtain ⟨d1, d2⟩ := HD0.out q
          obtain ⟨v, hv⟩ : ∃ v, v = dotTo (colL X Y) ts e q := ⟨_, rfl⟩
          rw [← hv] at d1 d2 ⊢
          have HV := Lib.hid hv
          have hcomm : y * x = x * y := Int.mul_comm _ _
          obtain ⟨P, hP⟩ : ∃ P, P = x * y := ⟨_, rfl⟩
          rw [← hP] at p1 p2
          have k1 : IntKind.i64.wrap (y * x) = P := by rw [hcomm, ← hP]; exact IntWalk.i64_in _ (by omega)
          have k2 : IntKind.i64.wrap (v + P) = v + P := IntWalk.i64_in _ (by omega)
          have HP := Lib.hid hP
          clear hg hg3 hg4 hl hcell hv hcomm hP
          go_wp2
          go_quiet (fail)
          clear k1 k2
          go_wp2
          go_roundw
          case rel => exact ⟨q + 1, by omega, by go_num, by rw [HS.out, HV.out, HP.out], by (repeat (first | exact Bel.refl _ | assumption | refine Bel.drew ?_ | refine Bel.drewN ?_ _ | refine Bel.alloc ?_ _ | refine Bel.setCell ?_ (by first | omega | (simp; done) | (simp; omega) | (simp at *; omega)) _ | refine Bel.trans ?_ (by assumption)))⟩
          case measure => simp [intOf]; omega
        · obtain rfl : q = N := by omega
          have hq9 : dotTo (colL X Y) ts e (n + m) = dotTo (colL X Y) ts e q := by rw [HN.out]
          obtain ⟨v, hv⟩ : ∃ v, v = dotTo (colL X Y) ts e q := ⟨_, rfl⟩
          rw [← hv] at hq9 ⊢
          have HQ := Lib.hid hq9
          clear hv hq9
          by_cases hvz : v = 0
          · subst hvz
            go_wp2
            go_roundw
            case rel => exact ⟨e + 1, by omega, by go_num, hbr, fun j hj => by
              rcases (by omega : j < e ∨ j = e) with h | rfl
              · exact HZ.out j h
              · exact HQ.out⟩
            case measure => simp [intOf]; omega
          · have hvz2 : (v != 0) = true := by simpa using hvz
            have HF := Lib.hid (HNO.out e hlt (by rw [HQ.out]; exact hvz))
            clear hvz
            go_wp2
            go_ret
            exact ⟨ret_bool HF.out.symm, by (repeat (first | exact Bel.refl _ | assumption | refine Bel.drew ?_ | refine Bel.drewN ?_ _ | refine Bel.alloc ?_ _ | refine Bel.setCell ?_ (by first | omega | (simp; done) | (simp; omega) | (simp at *; omega)) _ | refine Bel.trans ?_ (by assumption)))⟩
    · obtain rfl : e = n0 := by omega
      have HF := Lib.hid (HYES.out HZ.out)
      go_wp2
      go_ret
      exact ⟨ret_bool HF.out.symm, by (repeat (first | exact Bel.refl _ | assumption | refine Bel.drew ?_ | refine Bel.drewN ?_ _ | refine Bel.alloc ?_ _ | refine Bel.setCell ?_ (by first | omega | (simp; done) | (simp; omega) | (simp at *; omega)) _ | refine Bel.trans ?_ (by assumption)))⟩
end Go.Proofs.Ytfjegdejfccgaaa
