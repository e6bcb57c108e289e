/- Limit by the document. -/
import Derived.Test.YtfjegdejfccgaaaU
namespace Go.Proofs.Ytfjegdejfccgaaa
open Go.RowKit

theorem pos_out {ts : List Int} {x : Int} (hx : x ∈ ts) (h : x < 1) : posB ts = false := by
  rw [Bool.eq_false_iff]; intro e
  have := of_decide_eq_true (List.all_eq_true.1 e x hx); omega
theorem pos_in {ts : List Int} (h : ∀ (j : Nat) (v : Int), ts[j]? = some v → 1 ≤ v) : posB ts = true := List.all_eq_true.2 fun v hv => by
  obtain ⟨j, hj⟩ := List.mem_iff_getElem?.1 hv
  exact decide_eq_true (h j v hj)
set_option maxRecDepth 100000 in
set_option maxHeartbeats 1000000 in
theorem stocked_any (A B : Option Addr) (n c m d : Nat) (X Y : List (List Int)) (T : Option Addr) (t u : Nat) (ts : List Int) (K : Option Addr) (k v : Nat) (ks : List Int) (w : World) (hS : Strk w A n B m X Y) (hT : Ints w T ts) (ht : ts.length = t) (hmax : t ≤ maxLen) (hK : Ints w K ks) (hk : ks.length = k) (hkm : k ≤ maxLen) :
    Calls Try.prog 103 #[.agg #[.slice A n c, .slice B m d], .slice T t u, .slice K k v] w fun e w' => e = .returned (.int .i64 (errR X Y ts ks)) ∧ Bel w w' := by
  have Ht := Lib.hid ht; have Hk := Lib.hid hk
  have Held := Lib.hid (fun w' (h : Bel (w.alloc (.cells #[.slice A n c, .slice B m d] 24)) w') => box_sl h)
  rcases errT_cases X Y ts with ⟨he, hb, hz⟩ | hz
  · have HZ := Lib.hid hz
    have HX := Lib.hid hS.lx
    have HNM := Lib.hid (show stB X ks = listB 0 1000 ks (n : Int) by unfold stB; rw [HX.out])
    cases hs : stB X ks with
    | false =>
      have HST := Lib.hid hs
      have HF := Lib.hid (errR_st hz hs)
      clear he hb hz ht hk hs
      go_enter Try.func103, Try.ntmps103
      go_wp2_with fail
      refine (timed_any A B n c m d X Y _ t u ts _ (hS.bel (by (repeat (first | exact Bel.refl _ | assumption | refine Bel.drew ?_ | refine Bel.drewN ?_ _ | refine Bel.alloc ?_ _ | refine Bel.setCell ?_ (by first | omega | (simp; done) | (simp; omega) | (simp at *; omega)) _ | refine Bel.trans ?_ (by assumption))))) (hT.bel (by (repeat (first | exact Bel.refl _ | assumption | refine Bel.drew ?_ | refine Bel.drewN ?_ _ | refine Bel.alloc ?_ _ | refine Bel.setCell ?_ (by first | omega | (simp; done) | (simp; omega) | (simp at *; omega)) _ | refine Bel.trans ?_ (by assumption))))) Ht.out hmax).mono ?_
      rintro e w1 ⟨rfl, hb1⟩
      rw [HZ.out]
      obtain ⟨q0, q1⟩ := Held.out _ hb1
      go_wp2_with fail
      refine (isList_any K k v ks (n : Int) 0 1000 _ (hK.bel (((Bel.refl w).alloc _).trans hb1)) Hk.out hkm).mono ?_
      rintro e w2 ⟨rfl, rfl⟩
      rw [← HNM.out, HST.out]
      go_wp2
      go_ret
      exact ⟨ret_int HF.out.symm, by (repeat (first | exact Bel.refl _ | assumption | refine Bel.drew ?_ | refine Bel.drewN ?_ _ | refine Bel.alloc ?_ _ | refine Bel.setCell ?_ (by first | omega | (simp; done) | (simp; omega) | (simp at *; omega)) _ | refine Bel.trans ?_ (by assumption)))⟩
    | true =>
      have HST := Lib.hid hs
      have HE := Lib.hid he; have HBT := Lib.hid hb
      have HFP := Lib.hid (fun (h : posB ts = false) => show errR X Y ts ks = 8 by rw [errR_go hz hs, h]; rfl)
      have HFB := Lib.hid (fun (h : posB ts = true) (h2 : balB X Y ts = false) => show errR X Y ts ks = 8 by rw [errR_go hz hs, h, h2]; rfl)
      have HFO := Lib.hid (fun (h : posB ts = true) (h2 : balB X Y ts = true) => show errR X Y ts ks = 0 by rw [errR_go hz hs, h, h2]; rfl)
      have hti : (t : Int) ≤ 9223372036854775807 := by unfold maxLen at hmax; omega
      clear he hb hz ht hk hs
      go_enter Try.func103, Try.ntmps103
      go_wp2_with fail
      refine (timed_any A B n c m d X Y _ t u ts _ (hS.bel (by (repeat (first | exact Bel.refl _ | assumption | refine Bel.drew ?_ | refine Bel.drewN ?_ _ | refine Bel.alloc ?_ _ | refine Bel.setCell ?_ (by first | omega | (simp; done) | (simp; omega) | (simp at *; omega)) _ | refine Bel.trans ?_ (by assumption))))) (hT.bel (by (repeat (first | exact Bel.refl _ | assumption | refine Bel.drew ?_ | refine Bel.drewN ?_ _ | refine Bel.alloc ?_ _ | refine Bel.setCell ?_ (by first | omega | (simp; done) | (simp; omega) | (simp at *; omega)) _ | refine Bel.trans ?_ (by assumption))))) Ht.out hmax).mono ?_
      rintro e w1 ⟨rfl, hb1⟩
      rw [HZ.out]
      obtain ⟨q0, q1⟩ := Held.out _ hb1
      have hw1 : Bel w w1 := ((Bel.refl w).alloc _).trans hb1
      go_wp2_with fail
      refine (isList_any K k v ks (n : Int) 0 1000 _ (hK.bel hw1) Hk.out hkm).mono ?_
      rintro e w2 ⟨rfl, rfl⟩
      rw [← HNM.out, HST.out]
      go_wp2
      go_loop [8] (fun i => ∃ q : Nat, q ≤ t ∧ i = .int .i64 q ∧ ∀ (j : Nat) (v : Int), j < q → ts[j]? = some v → 1 ≤ v) (fun i => t - (intOf i).toNat)
      case atStart => exact ⟨0, Nat.zero_le _, rfl, fun j v hj => by omega⟩
      case round =>
        obtain ⟨q, hq, rfl, hp⟩ := hrel
        have HP := Lib.hid hp
        clear hp
        by_cases hlt : q < t
        · have hqt : (q : Int) < (t : Int) := by omega
          obtain ⟨b, o, x, rfl, hbl, hg, hc1⟩ := (hT.bel hw1).at_ (k := q) (by rw [Ht.out]; exact hlt)
          have HG := Lib.hid hg
          clear hg
          by_cases hx : x < 1
          · have HF := Lib.hid (HFP.out (pos_out (List.mem_of_getElem? HG.out) hx))
            go_wp2
            go_ret
            exact ⟨ret_int HF.out.symm, by (repeat (first | exact Bel.refl _ | assumption | refine Bel.drew ?_ | refine Bel.drewN ?_ _ | refine Bel.alloc ?_ _ | refine Bel.setCell ?_ (by first | omega | (simp; done) | (simp; omega) | (simp at *; omega)) _ | refine Bel.trans ?_ (by assumption)))⟩
          · have hx1 : 1 ≤ x := by omega
            clear hx
            go_wp2
            go_round
            case rel => exact ⟨q + 1, by omega, by go_num, fun j v hj hv => by
              rcases (by omega : j < q ∨ j = q) with h | rfl
              · exact HP.out j v h hv
              · rw [HG.out] at hv; injection hv with hv; rw [← hv]; exact hx1⟩
            case measure => simp [intOf]; omega
        · obtain rfl : q = t := by omega
          have hpos := Lib.hid (pos_in (fun j v hv => HP.out j v (by rw [← Ht.out]; exact (List.getElem?_eq_some_iff.1 hv).1) hv))
          cases hbl : balB X Y ts with
          | false =>
            have HBL := Lib.hid hbl
            have HF := Lib.hid (HFB.out hpos.out hbl)
            clear hbl
            go_wp2_with fail
            refine (rbalances_any A B n c m d X Y T q u ts _ (hS.bel hw1) (hT.bel hw1) Ht.out HE.out HBT.out).mono ?_
            rintro e w3 ⟨rfl, hb3⟩
            rw [HBL.out]
            go_wp2
            go_ret
            exact ⟨ret_int HF.out.symm, by (repeat (first | exact Bel.refl _ | assumption | refine Bel.drew ?_ | refine Bel.drewN ?_ _ | refine Bel.alloc ?_ _ | refine Bel.setCell ?_ (by first | omega | (simp; done) | (simp; omega) | (simp at *; omega)) _ | refine Bel.trans ?_ (by assumption)))⟩
          | true =>
            have HBL := Lib.hid hbl
            have HF := Lib.hid (HFO.out hpos.out hbl)
            clear hbl
            go_wp2_with fail
            refine (rbalances_any A B n c m d X Y T q u ts _ (hS.bel hw1) (hT.bel hw1) Ht.out HE.out HBT.out).mono ?_
            rintro e w3 ⟨rfl, hb3⟩
            rw [HBL.out]
            go_wp2
            go_ret
            exact ⟨ret_int HF.out.symm, by (repeat (first | exact Bel.refl _ | assumption | refine Bel.drew ?_ | refine Bel.drewN ?_ _ | refine Bel.alloc ?_ _ | refine Bel.setCell ?_ (by first | omega | (simp; done) | (simp; omega) | (simp at *; omega)) _ | refine Bel.trans ?_ (by assumption)))⟩
  · have HZ := Lib.hid hz
    have HF := Lib.hid (errR_bad (ks := ks) hz)
    clear hz ht hk
    go_enter Try.func103, Try.ntmps103
    go_wp2_with fail
    refine (timed_any A B n c m d X Y _ t u ts _ (hS.bel (by (repeat (first | exact Bel.refl _ | assumption | refine Bel.drew ?_ | refine Bel.drewN ?_ _ | refine Bel.alloc ?_ _ | refine Bel.setCell ?_ (by first | omega | (simp; done) | (simp; omega) | (simp at *; omega)) _ | refine Bel.trans ?_ (by assumption))))) (hT.bel (by (repeat (first | exact Bel.refl _ | assumption | refine Bel.drew ?_ | refine Bel.drewN ?_ _ | refine Bel.alloc ?_ _ | refine Bel.setCell ?_ (by first | omega | (simp; done) | (simp; omega) | (simp at *; omega)) _ | refine Bel.trans ?_ (by assumption))))) Ht.out hmax).mono ?_
    rintro e w1 ⟨rfl, hb1⟩
    rw [HZ.out]
    go_wp2
    go_ret
    exact ⟨ret_int HF.out.symm, by (repeat (first | exact Bel.refl _ | assumption | refine Bel.drew ?_ | refine Bel.drewN ?_ _ | refine Bel.alloc ?_ _ | refine Bel.setCell ?_ (by first | omega | (simp; done) | (simp; omega) | (simp at *; omega)) _ | refine Bel.trans ?_ (by assumption)))⟩
theorem lim_next {ts ks : List Int} {n : Nat} {R : Int} (h0 : 0 ≤ R) (ht : ∀ x ∈ ts, 1 ≤ x) (hk : ∀ x ∈ ks, x ≤ 1000) (n1 : 1 ≤ n) (hn : n ≤ ts.length) (h : shTo ts ks R n = []) : R + 1 ≤ limTo ts ks n := by
  have key : ∀ i, i < n → R + 1 ≤ ks.getD i 0 / ts.getD i 0 := by
    intro i hi
    have h1 := shTo_nil n h i hi
    have h2 : 1 ≤ ts.getD i 0 := by
      rw [List.getD_eq_getElem?_getD, List.getElem?_eq_getElem (by omega)]
      exact ht _ (List.getElem_mem _)
    exact (Int.le_ediv_iff_mul_le (by omega)).2 h1
  refine limTo_ge ?_ n key
  have h1 := shTo_nil n h 0 (by omega)
  have h2 : 1 ≤ ts.getD 0 0 := by
    rw [List.getD_eq_getElem?_getD, List.getElem?_eq_getElem (by omega)]
    exact ht _ (List.getElem_mem _)
  have h3 : ks.getD 0 0 ≤ 1000 := by
    rw [List.getD_eq_getElem?_getD]
    cases e : ks[0]? with
    | none => simp
    | some u => exact hk u (List.mem_of_getElem? e)
  have h4 : (R + 1) * 1 ≤ (R + 1) * ts.getD 0 0 := Int.mul_le_mul_of_nonneg_left h2 (by omega)
  omega
theorem lim_here {ts ks : List Int} {n : Nat} {R : Int} (ht : ∀ x ∈ ts, 1 ≤ x) (hn : n ≤ ts.length) (hle : R ≤ limTo ts ks n) (h : shTo ts ks R n ≠ []) : R = limTo ts ks n := by
  obtain ⟨i, hi, h1⟩ := shTo_ne n h
  have h2 : 1 ≤ ts.getD i 0 := by
    rw [List.getD_eq_getElem?_getD, List.getElem?_eq_getElem (by omega)]
    exact ht _ (List.getElem_mem _)
  have h3 : ks.getD i 0 / ts.getD i 0 < R + 1 := (Int.ediv_lt_iff_lt_mul (by omega)).2 h1
  have := limTo_le ts ks n i hi
  omega
set_option maxRecDepth 100000 in
set_option maxHeartbeats 2000000 in
theorem rLimit_any (A B : Option Addr) (n c m d : Nat) (X Y : List (List Int)) (T : Option Addr) (t u : Nat) (ts : List Int) (K : Option Addr) (k v : Nat) (ks : List Int) (w : World) (hS : Strk w A n B m X Y) (hT : Ints w T ts) (ht : ts.length = t) (hmax : t ≤ maxLen) (hK : Ints w K ks) (hk : ks.length = k) (hkm : k ≤ maxLen) :
    Calls Try.prog 57 #[.agg #[.slice A n c, .slice B m d], .slice T t u, .slice K k v] w (LimAt w (limV X Y ts ks) (shV X Y ts ks) (errR X Y ts ks)) := by
  have Ht := Lib.hid ht; have Hk := Lib.hid hk
  by_cases he : errR X Y ts ks = 0
  · obtain ⟨i1, hj, hy0, hy1, hy2⟩ := info_parts info1I
    obtain ⟨hz, hs, hp, hb⟩ := errR_cases he
    have HZ := Lib.hid he
    obtain ⟨kb, kl⟩ := listB_yes hs
    have hX := hS.lx
    have hkn : k = n := by rw [← hk, ← hX]; omega
    have htm0 : tmB X Y ts = true := by
      rcases errT_cases X Y ts with ⟨_, h, _⟩ | h
      · exact h
      · rw [hz] at h; cases h
    obtain ⟨tb, tl⟩ := tm_of htm0
    have hS0 : errS X Y = 0 := by
      rcases errT_cases X Y ts with ⟨h, _, _⟩ | h
      · exact h
      · rw [hz] at h; cases h
    have hSt := str_of hS0
    have htb : ∀ x ∈ ts, 1 ≤ x ∧ x ≤ 1000000 := fun x hx => ⟨of_decide_eq_true (List.all_eq_true.1 hp x hx), (tb x hx).2⟩
    have hkt : k ≤ t := by rw [← hk, ← ht, tl]; omega
    have ht6 : t ≤ 6 := by rw [← ht, tl]; have := hSt.x3; have := hSt.y3; omega
    have hk1 : 1 ≤ k := by rw [hkn, ← hX]; exact hSt.x1
    have HTB := Lib.hid htb; have HKB := Lib.hid kb
    have HL := Lib.hid (show limV X Y ts ks = limTo ts ks k by unfold limV; rw [if_pos he, hX, hkn])
    have HSH := Lib.hid (show shV X Y ts ks = shTo ts ks (limTo ts ks k) k by unfold shV; rw [if_pos he, hX, hkn])
    have hR0 := limTo_pos (ts := ts) (ks := ks) (fun x hx => (htb x hx).1) (fun x hx => (kb x hx).1) k (by omega)
    have hR1 := limTo_top ts ks k
    have HNX := Lib.hid (fun (R : Int) (h0 : 0 ≤ R) (h : shTo ts ks R k = []) => lim_next h0 (fun x hx => (htb x hx).1) (fun x hx => (kb x hx).2) hk1 (by omega) h)
    have HHE := Lib.hid (fun (R : Int) (h0 : R ≤ limTo ts ks k) (h : shTo ts ks R k ≠ []) => lim_here (fun x hx => (htb x hx).1) (by omega) h0 h)
    obtain ⟨L, hL⟩ : ∃ L, L = limTo ts ks k := ⟨_, rfl⟩
    rw [← hL] at HL HSH hR0 hR1 HNX HHE
    have hk6 : (k : Int) ≤ 6 := by omega
    have ht6i : (t : Int) ≤ 6 := by omega
    clear he hz hs hp hb kb kl hX hkn htm0 tb tl hS0 hSt htb ht hk hL
    go_enter Try.func57, Try.ntmps57
    go_wp2_with fail
    refine (stocked_any A B n c m d X Y T t u ts K k v ks _ (hS.bel (by (repeat (first | exact Bel.refl _ | assumption | refine Bel.drew ?_ | refine Bel.drewN ?_ _ | refine Bel.alloc ?_ _ | refine Bel.setCell ?_ (by first | omega | (simp; done) | (simp; omega) | (simp at *; omega)) _ | refine Bel.trans ?_ (by assumption))))) (hT.bel (by (repeat (first | exact Bel.refl _ | assumption | refine Bel.drew ?_ | refine Bel.drewN ?_ _ | refine Bel.alloc ?_ _ | refine Bel.setCell ?_ (by first | omega | (simp; done) | (simp; omega) | (simp at *; omega)) _ | refine Bel.trans ?_ (by assumption))))) Ht.out hmax (hK.bel (by (repeat (first | exact Bel.refl _ | assumption | refine Bel.drew ?_ | refine Bel.drewN ?_ _ | refine Bel.alloc ?_ _ | refine Bel.setCell ?_ (by first | omega | (simp; done) | (simp; omega) | (simp at *; omega)) _ | refine Bel.trans ?_ (by assumption))))) Hk.out hkm).mono ?_
    rintro e w1 ⟨rfl, hb1⟩
    rw [HZ.out]
    have hw1 : Bel w w1 := ((Bel.refl w).alloc _).trans hb1
    go_wp2
    go_loopw [10] (fun r wr => ∃ R : Nat, (R : Int) ≤ L ∧ r = .int .i64 (R : Int) ∧ Bel w1 wr) (fun r _ => L.toNat - (intOf r).toNat)
    case atStart => exact ⟨0, hR0, rfl, Bel.refl _⟩
    case round =>
      obtain ⟨R, hRL, rfl, hbr⟩ := hrel
      obtain ⟨wo, hwo⟩ : ∃ wo : World, wo = wr := ⟨_, rfl⟩
      subst hwo
      have hRi : (R : Int) ≤ 1000 := by omega
      have hRn : (0 : Int) ≤ (R : Int) := by omega
      go_wp2
      go_loopw [11, 12] (fun v i wr => ∃ q : Nat, q ≤ k ∧ i = .int .i64 q ∧ Bel wo wr ∧ Own1 3 wo.heap.size wr v (shTo ts ks R q)) (fun _ i _ => k - (intOf i).toNat)
      case atStart => exact ⟨0, Nat.zero_le _, rfl, Bel.refl _, Own1.nil _ _ _⟩
      case round =>
        obtain ⟨q, hq, rfl, hbr2, hO⟩ := hrel
        have hbb := hw1.trans (hbr.trans hbr2)
        by_cases hlt : q < k
        · obtain ⟨b, o, y, rfl, hbl, hg, hc1⟩ := (hK.bel hbb).at_ (k := q) (by rw [Hk.out]; exact hlt)
          obtain ⟨b', o', x, rfl, hbl', hg', hc1'⟩ := (hT.bel hbb).at_ (k := q) (by rw [Ht.out]; omega)
          have hqk : (q : Int) < (k : Int) := by omega
          have hqt : (q : Int) < (t : Int) := by omega
          obtain ⟨y0, y9⟩ := HKB.out y (List.mem_of_getElem? hg)
          obtain ⟨x0, x9⟩ := HTB.out x (List.mem_of_getElem? hg')
          obtain ⟨p1, p2⟩ := mulR hRn hRi x0 x9
          have hOl := shTo_len ts ks R q
          have k0 : IntKind.i64.wrap ((R : Int) + 1) = (R : Int) + 1 := IntWalk.i64_in _ (by omega)
          obtain ⟨M, hM⟩ : ∃ M, M = ((R : Int) + 1) * x := ⟨_, rfl⟩
          rw [← hM] at p1 p2
          have k1 : IntKind.i64.wrap (((R : Int) + 1) * x) = M := by rw [← hM]; exact IntWalk.i64_in _ (by omega)
          by_cases hc : y < M
          · have HQ := Lib.hid (shTo_yes hg' hg (by rw [← hM]; exact hc))
            obtain ⟨P, hP⟩ : ∃ P, P = shTo ts ks R q := ⟨_, rfl⟩
            rw [← hP] at hO hOl HQ
            have HO := Lib.hid hO
            have hX1 := Lib.hid (show P.length + 1 ≤ maxLen by unfold maxLen; omega)
            have hX2 := Lib.hid (show (P.length + 1) * 8 ≤ 140737488355328 by omega)
            have hwz := hbr2.size
            clear hg hg' hP hO hM
            go_wp2
            go_quiet (fail)
            clear k0 k1
            go_wp2_with (at_builtin; go_loud (refine wpList_append_lies _ rfl (.tmp 40) (.tmp 42) 28 rfl wo.heap.size 3 i1 _ 1 8 Try.underlying28 hj hy0 hy1 hy2 rfl (by decide) u11 _ _ (by rfl) (Own1.alloc (HO.out.bel ((Bel.refl wr).drewN _)) _) ⟨wr.heap.size, 0, none⟩ 1 1 [.int .i64 (q : Int)] (by rfl) rfl (new1 _ _ _ _ (by simp)) (one1 _) (by omega) hX1.out hX2.out (by simp <;> omega) _ rfl ?_); intro g5 cap5 w5 hown5 hgr5 hat5 hlt5)
            have hB5 := Lib.hid (grown_own (w := wo) ((hbr2.drewN _).alloc _) HO.out (Nat.le_refl _) hgr5)
            have HO5 := Lib.hid (Own1.snoc hown5)
            clear hown5 hgr5 hat5 hlt5
            go_roundw
            case rel => exact ⟨q + 1, by omega, by go_num, hB5.out, by rw [HQ.out]; exact HO5.out⟩
            case measure => simp [intOf]; omega
          · have HQ := Lib.hid (shTo_no hg' hg (by rw [← hM]; exact hc))
            have hci : M ≤ y := by omega
            clear hc hg hg' hM
            go_wp2
            go_quiet (fail)
            clear k0 k1
            go_wp2
            go_roundw
            case rel => exact ⟨q + 1, by omega, by go_num, by (repeat (first | exact Bel.refl _ | assumption | refine Bel.drew ?_ | refine Bel.drewN ?_ _ | refine Bel.alloc ?_ _ | refine Bel.setCell ?_ (by first | omega | (simp; done) | (simp; omega) | (simp at *; omega)) _ | refine Bel.trans ?_ (by assumption))), by rw [HQ.out]; exact hO.bel (by (repeat (first | exact Bel.refl _ | assumption | refine Bel.drew ?_ | refine Bel.drewN ?_ _ | refine Bel.alloc ?_ _ | refine Bel.setCell ?_ (by first | omega | (simp; done) | (simp; omega) | (simp at *; omega)) _ | refine Bel.trans ?_ (by assumption))))⟩
            case measure => simp [intOf]; omega
        · obtain rfl : q = k := by omega
          obtain ⟨A9, n9, c9, rfl, hn9, hI9⟩ := hO.form
          by_cases hnil : shTo ts ks R q = []
          · have hn0 : n9 = 0 := by rw [hn9, hnil]; rfl
            subst hn0
            have hnx := HNX.out _ hRn hnil
            clear hn9 hI9 hO hnil
            go_wp2
            go_roundw
            case rel => exact ⟨R + 1, by omega, by go_num, hbr.trans hbr2⟩
            case measure => simp [intOf]; omega
          · have hpos9 : 0 < (n9 : Int) := by
              have : n9 ≠ 0 := fun e => hnil (List.eq_nil_of_length_eq_zero (by omega))
              omega
            have HHR := Lib.hid (HHE.out _ hRL hnil)
            have HN9 := Lib.hid hn9
            have HI9 := Lib.hid hI9
            clear hn9 hI9 hO hnil
            go_wp2
            go_ret3
            exact ⟨A9, n9, c9, ret_l3 (by rw [HL.out]; exact HHR.out) HZ.out.symm, by rw [HSH.out, ← HHR.out]; exact HN9.out, by (repeat (first | exact Bel.refl _ | assumption | refine Bel.drew ?_ | refine Bel.drewN ?_ _ | refine Bel.alloc ?_ _ | refine Bel.setCell ?_ (by first | omega | (simp; done) | (simp; omega) | (simp at *; omega)) _ | refine Bel.trans ?_ (by assumption))), by rw [HSH.out, ← HHR.out]; exact HI9.out⟩
  · obtain ⟨x, hx⟩ : ∃ x, x = errR X Y ts ks := ⟨_, rfl⟩
    have hne : (x != 0) = true := by rw [hx]; simpa using he
    have HV1 := Lib.hid (show limV X Y ts ks = 0 by unfold limV; rw [if_neg he])
    have HV2 := Lib.hid (show shV X Y ts ks = [] by unfold shV; rw [if_neg he])
    have HX := Lib.hid hx
    clear he hx ht hk
    go_enter Try.func57, Try.ntmps57
    go_wp2_with fail
    refine (stocked_any A B n c m d X Y T t u ts K k v ks _ (hS.bel (by (repeat (first | exact Bel.refl _ | assumption | refine Bel.drew ?_ | refine Bel.drewN ?_ _ | refine Bel.alloc ?_ _ | refine Bel.setCell ?_ (by first | omega | (simp; done) | (simp; omega) | (simp at *; omega)) _ | refine Bel.trans ?_ (by assumption))))) (hT.bel (by (repeat (first | exact Bel.refl _ | assumption | refine Bel.drew ?_ | refine Bel.drewN ?_ _ | refine Bel.alloc ?_ _ | refine Bel.setCell ?_ (by first | omega | (simp; done) | (simp; omega) | (simp at *; omega)) _ | refine Bel.trans ?_ (by assumption))))) Ht.out hmax (hK.bel (by (repeat (first | exact Bel.refl _ | assumption | refine Bel.drew ?_ | refine Bel.drewN ?_ _ | refine Bel.alloc ?_ _ | refine Bel.setCell ?_ (by first | omega | (simp; done) | (simp; omega) | (simp at *; omega)) _ | refine Bel.trans ?_ (by assumption))))) Hk.out hkm).mono ?_
    rintro e w1 ⟨rfl, hb1⟩
    rw [← HX.out]
    go_wp2
    go_ret3
    exact ⟨none, 0, 0, ret_l3 HV1.out.symm HX.out, by rw [HV2.out]; rfl, by (repeat (first | exact Bel.refl _ | assumption | refine Bel.drew ?_ | refine Bel.drewN ?_ _ | refine Bel.alloc ?_ _ | refine Bel.setCell ?_ (by first | omega | (simp; done) | (simp; omega) | (simp at *; omega)) _ | refine Bel.trans ?_ (by assumption))), by rw [HV2.out]; exact .inl rfl⟩
end Go.Proofs.Ytfjegdejfccgaaa
