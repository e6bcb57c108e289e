/- Power of both. -/
import Derived.Test.YthjjpmcefiddmaaV
import Derived.Test.YthjjpmcefiddmaaK
namespace Go.Proofs.Ythjjpmcefiddmaa
open Go.RowKit

attribute [local go_sem] Oper.semAt_some

/-- What is wrong with a word and times. -/
def eT (ws : List Int) (t : Int) : Int := if eW ws = 0 then (if 0 ≤ t ∧ t ≤ 40 then (if 40 < (ws.length : Int) * t then 3 else 0) else 1) else eW ws
theorem eT_zero {ws : List Int} {t : Int} (h : eT ws t = 0) : eW ws = 0 ∧ ∃ k : Nat, t = (k : Int) ∧ k ≤ 40 ∧ ws.length * k ≤ 40 := by
  unfold eT at h
  split at h
  · rename_i h1
    refine ⟨h1, ?_⟩
    split at h
    · rename_i h2
      split at h
      · cases h
      · rename_i h3
        refine ⟨t.toNat, by omega, by omega, ?_⟩
        have h4 : t = (t.toNat : Int) := by omega
        rw [h4, ← Int.natCast_mul] at h3
        omega
    · cases h
  · rename_i h1; exact absurd h h1
/-- A word so many times, with no error. -/
def PowV (L : Nat) (l : List Int) (w : World) (e : Ending) (w' : World) : Prop := ∃ A c, e = .returned (.tuple #[.slice A L c, .int .i64 0]) ∧ Bel w w' ∧ Ints w' A l
set_option maxRecDepth 100000 in
set_option maxHeartbeats 1000000 in
theorem power_ok (A : Option Addr) (n c t : Nat) (ws : List Int) (w : World) (hR : Ints w A ws) (hn : ws.length = n) (hE : eW ws = 0) (ht : t ≤ 40) (hL : n * t ≤ 40) :
    Calls Try.prog 79 #[.slice A n c, .int .i64 (t : Int)] w (PowV (n * t) (repL ws t) w) := by
  have hn40 : n ≤ 40 := by have := (eW_zero hE).1; omega
  have hti : (t : Int) ≤ 40 := by omega
  obtain ⟨L, hLe⟩ : ∃ L, L = n * t := ⟨_, rfl⟩
  have hLi : (n : Int) * (t : Int) = (L : Int) := by rw [hLe, Int.natCast_mul]
  have hL40 : (L : Int) ≤ 40 := by omega
  have HLe := Lib.hid hLe
  have HE := Lib.hid hE; have Hn := Lib.hid hn
  have hmx : n ≤ maxLen := by unfold maxLen; omega
  rw [← hLe]
  clear hE hn hLe
  go_enter Try.func79, Try.ntmps79
  go_wp2_with fail
  refine (validateWord_any A n c ws _ hR Hn.out hmx).mono ?_
  rintro e w1 ⟨rfl, hw⟩
  subst hw
  rw [HE.out]
  go_wp2_with fail
  refine (repeat_any A n c t ws _ hR Hn.out hn40 ht hL).mono ?_
  rintro e w1 ⟨g, rfl, hg, hb, hI⟩
  rw [← HLe.out]
  go_wp2
  exact bodyPost_ret (v := .tuple #[.slice (some ⟨g, 0, none⟩) L L, .int .i64 0]) (by simp [results, Try.results79, go_sem]) rfl ⟨_, _, rfl, hb, hI⟩
theorem repL_snoc (l : List Int) (t : Nat) : repL l (t + 1) = repL l t ++ l := by unfold repL; rw [List.replicate_succ', List.flatten_append]; simp
theorem run_app0N (W : World) (ty : TypeId) (p : Option Addr) (c : Nat) : (Builtin.append_ #[22, 22] ty #[.slice none 0 0, .slice p 0 c]).run Try.prog W = .ok (.slice none 0 0) W := by
  obtain ⟨i, hi, _⟩ := Option.map_eq_some_iff.1 info1I
  cases p <;> simp [Builtin.append_, run_underlying Try.underlying22, sizeOf, typeInfo, hi, Builtin.lenOf, Builtin.firstCells, loadCells, loadCellsFrom]
theorem wpList_runI {ops : Array Oper} {rest : List Oper} {o : Oper} {a : Act} {w : World} {Q : Exit → Act → World → Prop} (hgd : o.guard = none) (s x : Operand)
    (ho : o.op = .call { callee := .builtin .append, args := #[s, x], argTypes := #[22, 22] }) (v u r : Value)
    (hs : a.eval s = v) (hx : a.eval x = u) (hr : (Builtin.append_ #[22, 22] o.type #[v, u]).run Try.prog w = .ok r w) (h : wpList Try.prog ops Q rest (a.put o.dst r) w) : wpList Try.prog ops Q (o :: rest) a w :=
  wpList_plain hgd fun _ hK => by
    unfold Oper.wp execOp
    simp only [ho, resolve, invoke, builtin, Sem.run_bind, Sem.run_pure, Result.andThen_ok, List.map_toArray, List.map_cons, List.map_nil, hs, hx, hr]
    exact hK _ _ h
set_option maxRecDepth 100000 in
set_option maxHeartbeats 1000000 in
theorem rpower_ok (A : Option Addr) (n c t : Nat) (ws : List Int) (w : World) (hR : Ints w A ws) (hn : ws.length = n) (hE : eW ws = 0) (ht : t ≤ 40) (hL : n * t ≤ 40) :
    Calls Try.prog 78 #[.slice A n c, .int .i64 (t : Int)] w (PowV (n * t) (repL ws t) w) := by
  obtain ⟨i0, hi, hz0, hz1, hz2⟩ := info_parts info1I
  have hn40 : n ≤ 40 := by have := (eW_zero hE).1; omega
  have hti : (t : Int) ≤ 40 := by omega
  have hni : (n : Int) ≤ 40 := by omega
  obtain ⟨L, hLe⟩ : ∃ L, L = n * t := ⟨_, rfl⟩
  have hLi : (n : Int) * (t : Int) = (L : Int) := by rw [hLe, Int.natCast_mul]
  have hL40 : (L : Int) ≤ 40 := by omega
  have HLe := Lib.hid hLe
  have HE := Lib.hid hE; have Hn := Lib.hid hn
  have hmx : n ≤ maxLen := by unfold maxLen; omega
  have HI := Lib.hid (decide_eq_true (show 0 ≤ (t : Int) ∧ (t : Int) ≤ 40 by omega))
  rw [← hLe]
  rcases Nat.eq_zero_or_pos n with h0 | hpos
  · have HN0 := Lib.hid h0
    have hws : ws = [] := List.eq_nil_of_length_eq_zero (by omega)
    have HREP : Hid (repL ws t = []) := List.eq_nil_of_length_eq_zero (by rw [repL_len, hws]; simp)
    have HL0 : Hid (L = 0) := by rw [h0, Nat.zero_mul] at hLe; exact hLe
    have hrun : Hid (∀ ty W, (Builtin.append_ #[22, 22] ty #[.slice none 0 0, .slice A n c]).run Try.prog W = .ok (.slice none 0 0) W) := fun ty W => by rw [h0]; exact run_app0N W ty _ _
    clear hE hn hLe hws h0 hL
    go_enter Try.func78, Try.ntmps78
    go_wp2_with fail
    refine (worded_any A n c ws _ hR Hn.out hmx).mono ?_
    rintro e w1 ⟨rfl, hw⟩
    subst hw
    rw [HE.out]
    go_wp2_with fail
    refine (within_any _ _ _ _).mono ?_
    rintro e w1 ⟨rfl, hw⟩
    subst hw
    rw [HI.out]
    go_wp2
    go_loopw [7, 8] (fun v i wr => ∃ k : Nat, k ≤ t ∧ i = .int .i64 k ∧ v = .slice none 0 0 ∧ Bel w wr) (fun _ i _ => t - (intOf i).toNat)
    case atStart => exact ⟨0, Nat.zero_le _, rfl, rfl, Bel.refl _⟩
    case round =>
      obtain ⟨k, hk, rfl, rfl, hb⟩ := hrel
      by_cases hlt : k < t
      · have hki : (k : Int) < (t : Int) := by omega
        go_wp2_with (at_builtin; go_loud (refine wpList_runI rfl (.tmp 27) (.tmp 28) rfl _ _ _ (by rfl) (by rfl) (hrun.out _ _) ?_))
        go_roundw
        case rel => exact ⟨k + 1, by omega, by go_num, rfl, hb⟩
        case measure => simp [intOf]; omega
      · obtain rfl : k = t := by omega
        go_wp2
        exact bodyPost_ret (v := .tuple #[.slice none 0 0, .int .i64 0]) (by simp [results, Try.results78, go_sem]) rfl ⟨_, _, by rw [HL0.out], hb, by rw [HREP.out]; exact .inl rfl⟩
  · obtain ⟨b1, b2, rfl, hbl1, hnw⟩ := hR.news (by intro e; rw [e] at hn; simp at hn; omega)
    have hnews : Hid (∀ w', Bel w w' → ∀ j u, (ws.map fun x => Value.int .i64 x)[j]? = some u → w'.cell? ((⟨b1, b2, none⟩ : Addr).add j) = some u) := by
      intro w' hb' j u hj
      have := hnw j u hj
      rw [Go.Addr.add_mid] at this ⊢
      rw [hb'.use.1 _ _ hbl1]
      exact this
    have HLK : Hid (∀ k, k < t → n * k + n ≤ 40) := fun k hk => by
      have : n * (k + 1) ≤ n * t := Nat.mul_le_mul_left n hk
      rw [Nat.mul_succ] at this
      omega
    clear hE hn hLe hnw hL
    go_enter Try.func78, Try.ntmps78
    go_wp2_with fail
    refine (worded_any _ n c ws _ hR Hn.out hmx).mono ?_
    rintro e w1 ⟨rfl, hw⟩
    subst hw
    rw [HE.out]
    go_wp2_with fail
    refine (within_any _ _ _ _).mono ?_
    rintro e w1 ⟨rfl, hw⟩
    subst hw
    rw [HI.out]
    go_wp2
    go_loopw [7, 8] (fun v i wr => ∃ k : Nat, k ≤ t ∧ i = .int .i64 k ∧ Bel w wr ∧ Own1 3 w.heap.size wr v (repL ws k)) (fun _ i _ => t - (intOf i).toNat)
    case atStart => exact ⟨0, Nat.zero_le _, rfl, Bel.refl _, Own1.nil _ _ _⟩
    case round =>
      obtain ⟨k, hk, rfl, hb, hO⟩ := hrel
      by_cases hlt : k < t
      · have hki : (k : Int) < (t : Int) := by omega
        have HS := Lib.hid (repL_snoc ws k)
        have hlen : (repL ws k).length = n * k := by rw [repL_len, Hn.out]
        have hlk := HLK.out k hlt
        obtain ⟨ll, hll⟩ : ∃ ll, ll = repL ws k := ⟨_, rfl⟩
        rw [← hll] at hO HS hlen
        have hbs := hb.size
        have hX1 := Lib.hid (show ll.length + n ≤ maxLen by unfold maxLen; omega)
        have hX2 := Lib.hid (show (ll.length + n) * 8 ≤ 140737488355328 by omega)
        have hNW := Lib.hid (hnews.out wr hb)
        have hNL := Lib.hid (show (ws.map fun x => Value.int .i64 x).length = n * 1 by rw [List.length_map, Hn.out, Nat.mul_one])
        clear hll hlen hlk
        go_wp2_with (at_builtin; go_loud (refine wpList_append_lies _ rfl (.tmp 27) (.tmp 28) 22 rfl w.heap.size 3 i0 _ 1 8 Try.underlying22 hi hz0 hz1 hz2 rfl (by decide) _ ll.length (ll.map fun x => .int .i64 x) (by rfl) hO ⟨b1, b2, none⟩ n c (ws.map fun x => .int .i64 x) (by rfl) hNL.out hNW.out (one_map _) hpos hX1.out hX2.out hbs _ rfl ?_); intro g3 cap3 w3 hown3 hgr3 _ hlt3)
        have hB3 : Bel w w3 := grown_own hb hO (Nat.le_refl _) hgr3
        have hO3 : Own1 3 w.heap.size w3 (.slice (some ⟨g3, 0, none⟩) (ll.length + n) cap3) (ll ++ ws) := by
          unfold Own1
          rw [List.length_append, Hn.out, List.map_append]
          exact hown3
        clear hown3 hgr3 hlt3 hO
        go_roundw
        case rel => exact ⟨k + 1, by omega, by go_num, hB3, by rw [HS.out]; exact hO3⟩
        case measure => simp [intOf]; omega
      · obtain rfl : k = t := by omega
        obtain ⟨A9, n9, c9, rfl, hn9, hI9⟩ := hO.form
        rw [repL_len, Hn.out, ← HLe.out] at hn9
        subst hn9
        go_wp2
        exact bodyPost_ret (v := .tuple #[.slice A9 n9 c9, .int .i64 0]) (by simp [results, Try.results78, go_sem]) rfl ⟨_, _, rfl, hb, hI9⟩
set_option maxRecDepth 100000 in
set_option maxHeartbeats 1000000 in
theorem power_err (A : Option Addr) (n c : Nat) (ws : List Int) (t : Int) (w : World) (hR : Ints w A ws) (hn : ws.length = n) (hmx : n ≤ maxLen) (hX : eT ws t ≠ 0) :
    Calls Try.prog 79 #[.slice A n c, .int .i64 t] w (NilE (eT ws t) w) := by
  by_cases hE : eW ws = 0
  · have HE := Lib.hid hE
    have hn40 : n ≤ 40 := by have := (eW_zero hE).1; omega
    have hni : (n : Int) ≤ 40 := by omega
    by_cases ht : 0 ≤ t ∧ t ≤ 40
    · have HI := Lib.hid (decide_eq_true ht)
      by_cases hq : 40 < (ws.length : Int) * t
      · have HV : eT ws t = 3 := by unfold eT; rw [if_pos hE, if_pos ht, if_pos hq]
        rw [HV]
        obtain ⟨ht0, ht40⟩ := ht
        obtain ⟨L, hL⟩ : ∃ L, L = (n : Int) * t := ⟨_, rfl⟩
        have hLi : (n : Int) * t = L := hL.symm
        have hL40 : 40 < L := by rw [hL, ← hn]; exact hq
        have hLb : L ≤ 1600 := by
          rw [hL]
          have h1 : (n : Int) * t ≤ 40 * t := Int.mul_le_mul_of_nonneg_right hni ht0
          omega
        clear HV hX hE hq hL
        go_enter Try.func79, Try.ntmps79
        go_wp2_with fail
        refine (validateWord_any A n c ws _ hR hn hmx).mono ?_
        rintro e w1 ⟨rfl, hw⟩
        subst hw
        rw [HE.out]

        go_wp2
        exact bodyPost_ret (v := .tuple #[.slice none 0 0, .int .i64 3]) (by simp [results, Try.results79, go_sem]) rfl ⟨rfl, Bel.refl _⟩
      · exact absurd (by unfold eT; rw [if_pos hE, if_pos ht, if_neg hq]) hX
    · have HV : eT ws t = 1 := by unfold eT; rw [if_pos hE, if_neg ht]
      rw [HV]
      have HI := Lib.hid (decide_eq_false ht)
      clear HV hX hE
      by_cases ht0 : t < 0
      · clear ht
        go_enter Try.func79, Try.ntmps79
        go_wp2_with fail
        refine (validateWord_any A n c ws _ hR hn hmx).mono ?_
        rintro e w1 ⟨rfl, hw⟩
        subst hw
        rw [HE.out]
        go_wp2
        exact bodyPost_ret (v := .tuple #[.slice none 0 0, .int .i64 1]) (by simp [results, Try.results79, go_sem]) rfl ⟨rfl, Bel.refl _⟩
      · have ht1 : t > 40 := by omega
        clear ht
        go_enter Try.func79, Try.ntmps79
        go_wp2_with fail
        refine (validateWord_any A n c ws _ hR hn hmx).mono ?_
        rintro e w1 ⟨rfl, hw⟩
        subst hw
        rw [HE.out]
        go_wp2
        exact bodyPost_ret (v := .tuple #[.slice none 0 0, .int .i64 1]) (by simp [results, Try.results79, go_sem]) rfl ⟨rfl, Bel.refl _⟩
  · have HV : eT ws t = eW ws := by unfold eT; rw [if_neg hE]
    rw [HV]
    obtain ⟨x, hx⟩ : ∃ x, x = eW ws := ⟨_, rfl⟩
    have HE : Hid (eW ws = x) := hx.symm
    have hx0 : (x != 0) = true := by rw [hx]; simpa using hE
    rw [← hx]
    clear HV hX hE hx
    go_enter Try.func79, Try.ntmps79
    go_wp2_with fail
    refine (validateWord_any A n c ws _ hR hn hmx).mono ?_
    rintro e w1 ⟨rfl, hw⟩
    subst hw
    rw [HE.out]
    go_wp2
    exact bodyPost_ret (v := .tuple #[.slice none 0 0, .int .i64 x]) (by simp [results, Try.results79, go_sem]) rfl ⟨rfl, Bel.refl _⟩
set_option maxRecDepth 100000 in
set_option maxHeartbeats 1000000 in
theorem rpower_err (A : Option Addr) (n c : Nat) (ws : List Int) (t : Int) (w : World) (hR : Ints w A ws) (hn : ws.length = n) (hmx : n ≤ maxLen) (hX : eT ws t ≠ 0) :
    Calls Try.prog 78 #[.slice A n c, .int .i64 t] w (NilE (eT ws t) w) := by
  by_cases hE : eW ws = 0
  · have HE := Lib.hid hE
    have hn40 : n ≤ 40 := by have := (eW_zero hE).1; omega
    have hni : (n : Int) ≤ 40 := by omega
    by_cases ht : 0 ≤ t ∧ t ≤ 40
    · have HI := Lib.hid (decide_eq_true ht)
      by_cases hq : 40 < (ws.length : Int) * t
      · have HV : eT ws t = 3 := by unfold eT; rw [if_pos hE, if_pos ht, if_pos hq]
        rw [HV]
        obtain ⟨ht0, ht40⟩ := ht
        obtain ⟨L, hL⟩ : ∃ L, L = (n : Int) * t := ⟨_, rfl⟩
        have hLi : (n : Int) * t = L := hL.symm
        have hL40 : 40 < L := by rw [hL, ← hn]; exact hq
        have hLb : L ≤ 1600 := by
          rw [hL]
          have h1 : (n : Int) * t ≤ 40 * t := Int.mul_le_mul_of_nonneg_right hni ht0
          omega
        clear HV hX hE hq hL
        go_enter Try.func78, Try.ntmps78
        go_wp2_with fail
        refine (worded_any A n c ws _ hR hn hmx).mono ?_
        rintro e w1 ⟨rfl, hw⟩
        subst hw
        rw [HE.out]
        go_wp2_with fail
        refine (within_any _ _ _ _).mono ?_
        rintro e w1 ⟨rfl, hw⟩
        subst hw
        rw [HI.out]
        go_wp2
        exact bodyPost_ret (v := .tuple #[.slice none 0 0, .int .i64 3]) (by simp [results, Try.results78, go_sem]) rfl ⟨rfl, Bel.refl _⟩
      · exact absurd (by unfold eT; rw [if_pos hE, if_pos ht, if_neg hq]) hX
    · have HV : eT ws t = 1 := by unfold eT; rw [if_pos hE, if_neg ht]
      rw [HV]
      have HI := Lib.hid (decide_eq_false ht)
      clear HV hX hE
      clear ht
      go_enter Try.func78, Try.ntmps78
      go_wp2_with fail
      refine (worded_any A n c ws _ hR hn hmx).mono ?_
      rintro e w1 ⟨rfl, hw⟩
      subst hw
      rw [HE.out]
      go_wp2_with fail
      refine (within_any _ _ _ _).mono ?_
      rintro e w1 ⟨rfl, hw⟩
      subst hw
      rw [HI.out]
      go_wp2
      exact bodyPost_ret (v := .tuple #[.slice none 0 0, .int .i64 1]) (by simp [results, Try.results78, go_sem]) rfl ⟨rfl, Bel.refl _⟩
  · have HV : eT ws t = eW ws := by unfold eT; rw [if_neg hE]
    rw [HV]
    obtain ⟨x, hx⟩ : ∃ x, x = eW ws := ⟨_, rfl⟩
    have HE : Hid (eW ws = x) := hx.symm
    have hx0 : (x != 0) = true := by rw [hx]; simpa using hE
    rw [← hx]
    clear HV hX hE hx
    go_enter Try.func78, Try.ntmps78
    go_wp2_with fail
    refine (worded_any A n c ws _ hR hn hmx).mono ?_
    rintro e w1 ⟨rfl, hw⟩
    subst hw
    rw [HE.out]
    go_wp2
    exact bodyPost_ret (v := .tuple #[.slice none 0 0, .int .i64 x]) (by simp [results, Try.results78, go_sem]) rfl ⟨rfl, Bel.refl _⟩
end Go.Proofs.Ythjjpmcefiddmaa
