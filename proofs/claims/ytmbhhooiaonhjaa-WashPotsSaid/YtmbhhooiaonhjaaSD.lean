/- The program's Pots. -/
import Derived.Test.YtmbhhooiaonhjaaSB
import Derived.Test.YtmbhhooiaonhjaaSC
import Derived.Deep.Onto
import Derived.Deep.AppendLies
import Derived.Deep.AppendSrc
namespace Go.Proofs.Ytmbhhooiaonhjaa
open Go.RowKit

theorem ownsRow_low {base g e size n : Nat} {w w' : World} {v : Value} {xs : List Value} (h : w.ownsRow base e size v n xs) (hg : w.grownBy w' (some g)) (hl : g < base) : w'.ownsRow base e size v n xs := by
  refine World.ownsRow.kept h hg ?_
  cases hv : v.ownBlock with
  | none => exact .inl rfl
  | some k => exact .inr (fun e => by have := (World.ownsRow.lt h k hv).1; injection e with e; omega)
theorem OwnTV.low {base g : Nat} {w w' : World} {v : Value} {T : List (List (Int × Int))} {vs : List Value} (h : OwnTV base w v T vs) (hg : w.grownBy w' (some g)) (hl : g < base) : OwnTV base w' v T vs := by
  refine ⟨ownsRow_low h.own hg hl, h.len, fun j ns hj => ?_⟩
  obtain ⟨A', n', c', h1, h3, h4, h5, h6⟩ := h.els j ns hj
  exact ⟨A', n', c', h1, h3.grown hg (fun b o hA e => by have := (h6 b o hA).2.2; injection e with e; omega), h4, h5, fun b o hA => ⟨Nat.lt_of_lt_of_le (h6 b o hA).1 hg.size, (h6 b o hA).2⟩⟩
theorem OwnT.low {lo base : Nat} {w : World} {v : Value} {T : List (List (Int × Int))} (h : OwnT base w v T) (hl : lo ≤ base) : OwnT lo w v T := by
  obtain ⟨vs, h⟩ := h
  refine ⟨vs, World.ownsRow.mono h.own hl, h.len, fun j ns hj => ?_⟩
  obtain ⟨A', n', c', h1, h3, h4, h5, h6⟩ := h.els j ns hj
  exact ⟨A', n', c', h1, h3, h4, h5, fun b o hA => ⟨(h6 b o hA).1, (h6 b o hA).2.1, Nat.le_trans hl (h6 b o hA).2.2⟩⟩
theorem timesB_take {ts : List Int} {k : Nat} {t : Int} (h : timesB (ts.take k) = true) (hg : ts[k]? = some t) (ht : within t 0 100 = true) : timesB (ts.take (k + 1)) = true := by
  rw [take_at hg]
  simp only [timesB, List.all_append, List.all_cons, List.all_nil, ht]
  unfold timesB at h
  rw [h]
  rfl
theorem timesB_no {ts : List Int} {k : Nat} {t : Int} (hg : ts[k]? = some t) (ht : within t 0 100 = false) : timesB ts = false := by
  cases hb : timesB ts
  · rfl
  · simp only [timesB, List.all_eq_true] at hb
    rw [hb t (List.mem_of_getElem? hg)] at ht
    cases ht

set_option maxHeartbeats 1000000 in
theorem valPots_any (A B : Option Addr) (n c m e : Nat) (gs : List (Int × Int)) (ts : List Int) (d : Int) (w : World) (hR : Prs w A gs) (hT : Ints w B ts) (hn : gs.length = n) (hm : ts.length = m) (hmax : n ≤ maxLen) (hmax' : m ≤ maxLen) :
    Calls Try.prog 38 #[.slice A n c, .slice B m e, .int .i64 d] w fun e w' => e = .returned (.int .i64 (potsE gs ts d)) ∧ Bel w w' := by
  have Hn := Lib.hid hn; have Hm := Lib.hid hm; clear hn hm
  by_cases he : errV gs = 0
  · have HE := Lib.hid he; clear he
    by_cases h3 : 3 < m
    · have hp : Hid (potsE gs ts d = 3) := by show _ = _; unfold potsE; rw [if_pos HE.out, if_pos (by rw [Hm.out]; exact h3)]
      go_enter Try.func38, Try.ntmps38
      go_wp2_with fail
      refine (validate_any A n c gs _ hR Hn.out hmax).mono ?_
      rintro e w1 ⟨rfl, hb1⟩
      rw [HE.out]
      go_wp2
      go_ret
      exact ⟨ret_int hp.out.symm, hb1⟩
    · have h3' : ¬ (3 : Int) < (m : Int) := by omega
      have hp : Hid (potsE gs ts d = if (timesB ts && within d 1 20) = true then 0 else 1) := by show _ = _; unfold potsE; rw [if_pos HE.out, if_neg (by rw [Hm.out]; exact h3)]
      go_enter Try.func38, Try.ntmps38
      go_wp2_with fail
      refine (validate_any A n c gs _ hR Hn.out hmax).mono ?_
      rintro e w1 ⟨rfl, hb1⟩
      rw [HE.out]
      have hT1 := hT.bel hb1
      go_wp2
      go_loop [20] (fun i => ∃ k : Nat, k ≤ m ∧ i = .int .i64 k ∧ timesB (ts.take k) = true) (fun i => m - (intOf i).toNat)
      case atStart => exact ⟨0, Nat.zero_le _, rfl, rfl⟩
      case round =>
        obtain ⟨k, hk, rfl, hall⟩ := hrel
        have HA := Lib.hid hall; clear hall
        by_cases hlt : k < m
        · obtain ⟨b, o, t, rfl, hbl, hg, hc1⟩ := hT1.at_ (k := k) (by rw [Hm.out]; exact hlt)
          have HG := Lib.hid hg; clear hg
          have hkm : (k : Int) < (m : Int) := by omega
          cases ht : within t 0 100
          · go_wp2_with (go_at_call 43; refine (isTime_any _ _).mono ?_; rintro e w' ⟨rfl, rfl⟩)
            go_ret
            exact ⟨ret_int (by rw [hp.out, timesB_no HG.out ht]; rfl), hb1⟩
          · go_wp2_with (go_at_call 43; refine (isTime_any _ _).mono ?_; rintro e w' ⟨rfl, rfl⟩)
            go_round
            case rel => exact ⟨k + 1, by omega, by go_num, timesB_take HA.out HG.out ht⟩
            case measure => simp [intOf]; omega
        · obtain rfl : k = m := by omega
          have ht : Hid (timesB ts = true) := by
            have := HA.out
            rw [List.take_of_length_le (by rw [Hm.out]; omega)] at this
            exact this
          clear HA
          cases hd : within d 1 20
          · go_wp2_with (go_at_call 44; refine (isDepth_any _ _).mono ?_; rintro e w' ⟨rfl, rfl⟩)
            go_ret
            exact ⟨ret_int (by rw [hp.out, ht.out, hd]; rfl), hb1⟩
          · go_wp2_with (go_at_call 44; refine (isDepth_any _ _).mono ?_; rintro e w' ⟨rfl, rfl⟩)
            go_ret
            exact ⟨ret_int (by rw [hp.out, ht.out, hd]; rfl), hb1⟩
  · have hp : Hid (potsE gs ts d = errV gs) := by show _ = _; unfold potsE; rw [if_neg he]
    have hne : (errV gs != 0) = true := by simpa using he
    clear he
    go_enter Try.func38, Try.ntmps38
    go_wp2_with fail
    refine (validate_any A n c gs _ hR Hn.out hmax).mono ?_
    rintro e w1 ⟨rfl, hb1⟩
    go_wp2
    go_ret
    exact ⟨ret_int hp.out.symm, hb1⟩

/-- What Pots answers where something is wrong. -/
theorem pots_err (A B : Option Addr) (n c m e : Nat) (gs : List (Int × Int)) (ts : List Int) (d : Int) (w : World) (hR : Prs w A gs) (hT : Ints w B ts) (hn : gs.length = n) (hm : ts.length = m) (hmax : n ≤ maxLen) (hmax' : m ≤ maxLen) (hE : potsE gs ts d ≠ 0) :
    Calls Try.prog 18 #[.slice A n c, .slice B m e, .int .i64 d] w fun e w' => e = .returned (.tuple #[.slice none 0 0, .int .i64 (potsE gs ts d)]) ∧ Bel w w' := by
  have hne : (potsE gs ts d != 0) = true := by simpa using hE
  clear hE
  go_enter Try.func18, Try.ntmps18
  go_wp2_with fail
  refine (valPots_any A B n c m e gs ts d _ hR hT hn hm hmax hmax').mono ?_
  rintro e w1 ⟨rfl, hb1⟩
  go_wp2
  go_ret2
  exact ⟨rfl, hb1⟩

set_option maxRecDepth 100000 in
set_option maxHeartbeats 4000000 in
theorem pots_ok (A B : Option Addr) (n c m e : Nat) (gs : List (Int × Int)) (ts : List Int) (d : Int) (w : World) (hR : Prs w A gs) (hT : Ints w B ts) (hn : gs.length = n) (hm : ts.length = m) (hmax : n ≤ maxLen) (hE : potsE gs ts d = 0) :
    Calls Try.prog 18 #[.slice A n c, .slice B m e, .int .i64 d] w fun e w' => ∃ v, e = .returned (.tuple #[v, .int .i64 0]) ∧ OwnT w.heap.size w' v (potsL gs ts d) ∧ Bel w w' := by
  obtain ⟨i0, hi, hz0, hz1, hz2⟩ := info_parts info1R
  obtain ⟨he, h3, hts, d1, d2⟩ := potsE_zero hE
  obtain ⟨h6, -⟩ := errV_zero he
  have hm3 : m ≤ 3 := by omega
  have hn6 : n ≤ 6 := by omega
  have hok : Hid (∀ k, PotOk (aft d (pot gs) (ts.take k))) := fun k => aft_ok he d1 d2 _ (fun t ht => (hts t (List.mem_of_mem_take ht)).1) (by rw [List.length_take]; omega)
  have hlen : Hid (∀ us : List Int, (aft d (pot gs) us).length = n) := fun us => by rw [aft_length]; simp [pot, hn]
  have HTS := Lib.hid hts; have HE := Lib.hid hE; have Hn := Lib.hid hn; have Hm := Lib.hid hm
  clear h6 h3 hts hE he hn hm
  go_enter Try.func18, Try.ntmps18
  go_wp2_with fail
  refine (valPots_any A B n c m e gs ts d _ hR hT Hn.out Hm.out hmax (by unfold maxLen; omega)).mono ?_
  rintro e w1 ⟨rfl, hb1⟩
  rw [HE.out]
  go_wp2_with fail
  refine (pour_any A n c gs _ (hR.bel hb1) Hn.out (by omega)).mono ?_
  rintro e w2 ⟨g, rfl, hg, hb2, hr2⟩
  have hb12 := hb1.trans hb2
  have hgw : w.heap.size ≤ g := Nat.le_trans hb1.size hg
  have hg2 : g < w2.heap.size := hr2.lt
  have hsz2 : w.heap.size ≤ w2.heap.size := hb12.size
  clear hg hb2 hb1
  go_wp2
  go_loopw [10, 24] (fun v i wr => ∃ k : Nat, k ≤ m ∧ i = .int .i64 k ∧ Bel w wr ∧ w2.heap.size ≤ wr.heap.size ∧ Row wr g (n * 3) (n * 3) (flat3 (aft d (pot gs) (ts.take k))) ∧ OwnT w2.heap.size wr v (snk d (pot gs) (ts.take k))) (fun _ i _ => m - (intOf i).toNat)
  case atStart => exact ⟨0, Nat.zero_le _, rfl, hb12, Nat.le_refl _, hr2, OwnT.nil _ _⟩
  case round =>
    obtain ⟨k, hk, rfl, hb, hs2, hr, hO⟩ := hrel
    obtain ⟨vs, hO⟩ := hO
    have hkl : Hid ((snk d (pot gs) (ts.take k)).length = k) := by show _ = _; rw [snk_length, List.length_take, Hm.out]; omega
    have hO1 := hO.own
    rw [hkl.out] at hO1
    have hX1 := Lib.hid (show k + 1 ≤ maxLen by unfold maxLen; omega)
    have hX2 := Lib.hid (show (k + 1) * 24 ≤ 140737488355328 by omega)
    by_cases hlt : k < m
    · obtain ⟨b, o, t, rfl, hbl, hg, hc1⟩ := (hT.bel hb).at_ (k := k) (by rw [Hm.out]; exact hlt)
      obtain ⟨t1, t2⟩ := HTS.out t (List.mem_of_getElem? hg)
      have HA : Hid (aft d (pot gs) (ts.take (k + 1)) = (aft d (pot gs) (ts.take k)).map (stayP t d)) := by show _ = _; rw [take_at hg, aft_snoc]
      have HS : Hid (snk d (pot gs) (ts.take (k + 1)) = snk d (pot gs) (ts.take k) ++ [(aft d (pot gs) (ts.take k)).map (sinkP t d)]) := by show _ = _; rw [take_at hg, snk_snoc]
      have hkm : (k : Int) < (m : Int) := by omega
      clear hg
      go_wp2_with fail
      refine (settle_any g n n _ t d _ hr (hlen.out _) (by omega) (hok.out k) t1 t2 d1 d2).mono ?_
      rintro e w3 ⟨g', rfl, hg', hgb, hr3, hs3⟩
      have hO3 := hO.low hgb hg2
      have hO31 := hO3.own
      rw [hkl.out] at hO31
      have hs23 := hgb.size
      have hg'lt := hs3.lt
      have hl4 : Hid (((aft d (pot gs) (ts.take k)).map (sinkP t d)).length = n) := by show _ = _; rw [List.length_map]; exact hlen.out _
      have hp3 : Prs w3 (some ⟨g', 0, none⟩) ((aft d (pot gs) (ts.take k)).map (sinkP t d)) := Row.prs (m := n * 2) (by rw [hl4.out]; exact hs3)
      clear hs3
      go_wp2_with (at_builtin; go_loud (refine wpList_append_lies _ rfl (.tmp 28) (.tmp 33) 40 rfl w2.heap.size 47 i0 _ 1 24 Try.underlying40 hi hz0 hz1 hz2 rfl (by decide) u10 k vs (by rfl) (World.ownsRow.alloc hO31 _) ⟨w3.heap.size, 0, none⟩ 1 1 [.slice (some ⟨g', 0, none⟩) n n] (by rfl) rfl (newS _ _ _ _ rfl) (oneS _ _ _) (by omega) hX1.out hX2.out (by simp <;> omega) _ rfl ?_); intro g3 cap3 w4 hown3 hgr3 hat3 hlt3)
      have hO4 := OwnTV.snoc (g := g3) (hO3.bel ((Bel.refl w3).alloc _)) (hp3.bel ((Bel.refl w3).alloc _)) hl4.out (by unfold maxLen; omega) (fun b o hA => by
          injection hA with hA
          injection hA with e1 e2 e3
          subst e1
          refine ⟨by simp <;> omega, fun e => ?_, by omega⟩
          have h1 := (World.ownsRow.lt hO1 _ e).2
          omega) (by rw [hkl.out]; exact hown3) hgr3 (by rw [hkl.out] at *; simpa using hat3)
      have hb3 : Bel w w3 := Bel.grown hb hgb hgw
      have hB4 := grown_own (w := w) (hb3.alloc _) hO31 hsz2 hgr3
      have hs4 := hgr3.size
      have hr4 : Row w4 g (n * 3) (n * 3) (flat3 ((aft d (pot gs) (ts.take k)).map (stayP t d))) := by
        cases hv : u10.ownBlock with
        | none =>
          rw [hv] at hgr3
          exact (hr3.alloc _).of_block hgr3.size (hgr3.block g (Nat.lt_of_lt_of_le hr3.lt (by simp)) (by simp))
        | some q =>
          rw [hv] at hgr3
          exact (hr3.alloc _).grown hgr3 (by have := (World.ownsRow.lt hO31 q hv).1; omega)
      rw [hkl.out] at hO4
      clear hown3 hgr3 hat3 hlt3
      go_roundw
      case rel => exact ⟨k + 1, by omega, by go_num, hB4, by simp at hs4; omega, by rw [HA.out]; exact hr4, by rw [HS.out]; exact hO4⟩
      case measure => simp [intOf]; omega
    · obtain rfl : k = m := by omega
      have htk : Hid (ts.take k = ts) := List.take_of_length_le (by rw [Hm.out]; omega)
      rw [htk.out] at hO hr
      go_wp2_with fail
      refine (leftIn_any g n n _ _ hr (hlen.out _) (by omega)).mono ?_
      rintro e w3 ⟨g', rfl, hg', hb3, hs3⟩
      have hO3 := hO.bel hb3
      have hO31 := hO3.own
      rw [show (snk d (pot gs) ts).length = k from by have := hkl.out; rwa [htk.out] at this] at hO31
      have hl4 : Hid ((restL (aft d (pot gs) ts)).length = n) := by show _ = _; rw [restL, List.length_map]; exact hlen.out _
      have hg'lt := hs3.lt
      have hp3 : Prs w3 (some ⟨g', 0, none⟩) (restL (aft d (pot gs) ts)) := Row.prs (m := n * 2) (by rw [hl4.out]; exact hs3)
      have hs23 := hb3.size
      have hkl2 : Hid ((snk d (pot gs) ts).length = k) := by have := hkl.out; rwa [htk.out] at this
      clear hs3
      go_wp2_with (at_builtin; go_loud (refine wpList_append_lies _ rfl (.tmp 36) (.tmp 39) 40 rfl w2.heap.size 47 i0 _ 1 24 Try.underlying40 hi hz0 hz1 hz2 rfl (by decide) u10 k vs (by rfl) (World.ownsRow.alloc hO31 _) ⟨w3.heap.size, 0, none⟩ 1 1 [.slice (some ⟨g', 0, none⟩) n n] (by rfl) rfl (newS _ _ _ _ rfl) (oneS _ _ _) (by omega) hX1.out hX2.out (by simp <;> omega) _ rfl ?_); intro g3 cap3 w4 hown3 hgr3 hat3 hlt3)
      have hO4 := OwnTV.snoc (g := g3) (hO3.bel ((Bel.refl w3).alloc _)) (hp3.bel ((Bel.refl w3).alloc _)) hl4.out (by unfold maxLen; omega) (fun b o hA => by
          injection hA with hA
          injection hA with e1 e2 e3
          subst e1
          refine ⟨by simp <;> omega, fun e => ?_, by omega⟩
          have h1 := (World.ownsRow.lt hO.own _ e).2
          omega) (by rw [hkl2.out]; exact hown3) hgr3 (by rw [hkl2.out] at *; simpa using hat3)
      have hB4 := grown_own (w := w) ((hb.trans hb3).alloc _) hO31 hsz2 hgr3
      rw [hkl2.out] at hO4
      clear hown3 hgr3 hat3 hlt3
      go_ret2
      exact ⟨_, rfl, hO4.low hsz2, hB4⟩
end Go.Proofs.Ytmbhhooiaonhjaa
