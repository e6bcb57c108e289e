/- Possible of the program. -/
import Derived.Test.YtmckoehkekkldaaAV
namespace Go.Proofs.Ytmckoehkekkldaa
open Go.RowKit Go.Maps

/-- A key that a map is made with. -/
theorem wpList_insert_own {H : Type} {P : Program} (w : World) {ops : Array Oper} {rest : List Oper} {dst : Option Tmp} {m x v : Operand} {t ty : TypeId} {pos : String} {after : Array Edge} {a : Act} {Q : Exit → Act → World → Prop}
    (k e : TypeId) (K : Keyed P k) (ht : P.underlying t = some (.map k e)) (R : Value → Option (DataW H × List MemPlace)) (b n : Nat) (D : DataW H)
    (hm : a.eval m = .map (some b)) (hown : w.ownsMap P k R b n D) (hn : n < maxLen) (key val : Value) (kl : Lit) (hx : a.eval x = key) (hv : a.eval v = val) (hkey : keyOf P k key = some kl)
    (d : DataW H) (ps : List MemPlace) (hval : R val = some (d, ps))
    (hK : ∀ w', w'.ownsMap P k R b (n + 1) (D.put kl d) → w.grownBy w' (some b) → wpList P ops Q rest (a.put dst undef) w') :
    wpList P ops Q (⟨dst, Op.insert t m x v, ty, pos, after, none⟩ :: rest) a w := by
  refine wpList_plain rfl fun K' hK' => ?_
  obtain ⟨w', hrun, r1, r2⟩ := hown.update K ht hn hkey hval
  unfold Oper.wp
  simp [execOp, hm, hx, hv, hrun, Result.andThen]
  exact hK' _ _ (hK w' r1 r2)
theorem Marks.far {w w3 : World} {g n b : Nat} {P : List Wg} (h : Marks w g n P) (hg : w.grownBy w3 (some b)) (hb : b ≠ g) : Marks w3 g n P :=
  Row.of_block h (hg.size) (hg.block g h.lt (fun e => hb (Option.some.inj e).symm))
theorem MM.nocell {w : World} {M : Nat} {G : List M3} (h : MM w M G) (i : Nat) : w.cell? ⟨M, i, none⟩ = none := by
  obtain ⟨_, es, clock, hb, _⟩ := h
  simp [World.cell?, hb]
theorem Prs.far {w w3 : World} {A : Option Addr} {gs : List (Int × Int)} {b0 o0 : Nat} {n : Nat} (h : Prs w A gs) (hA : A = some ⟨b0, o0, none⟩) (hg : w.grownBy w3 (some n)) (hb : b0 ≠ n) : Prs w3 A gs := by
  subst hA
  rcases h with h | ⟨b, o, hA, hl, hc⟩
  · exact .inl h
  · obtain ⟨rfl, rfl⟩ : b0 = b ∧ o0 = o := by simpa using hA
    have hk : w3.heap[b0]? = w.heap[b0]? := hg.block b0 hl (fun e => hb (Option.some.inj e))
    refine .inr ⟨b0, o0, rfl, Nat.lt_of_lt_of_le hl hg.size, fun j s m hj => ?_⟩
    obtain ⟨h1, h2⟩ := hc j s m hj
    exact ⟨(World.cell?_of_block (w := w) (a := ⟨b0, o0 + j * 2, none⟩) hk).trans h1, (World.cell?_of_block (w := w) (a := ⟨b0, o0 + j * 2 + 1, none⟩) hk).trans h2⟩
set_option maxRecDepth 100000 in
set_option maxHeartbeats 4000000 in
theorem possible_ok (lo n : Nat) (A : Option Addr) (m c : Nat) (P : List Wg) (w : World) (hR : Plan lo w A P) (hm : P.length = m) (hG : Good n P) :
    Calls Try.prog 67 #[.int .i64 (n : Int), .slice A m c] w fun e w' => e = .returned (.tuple #[.int .i64 (possN P n : Int), .int .i64 0]) ∧ Bel w w' := by
  have hmm := @run_makeMap Try.prog
  have Hm := Lib.hid hm; have HGo := Lib.hid hG; have HE := Lib.hid hG.err
  have hn13 := hG.le
  clear hm hG
  go_enter Try.func67, Try.ntmps67
  go_wp2_with fail
  refine (validate_any lo n A m c P _ hR Hm.out).mono ?_
  rintro e w1 ⟨rfl, hb1⟩
  rw [HE.out]
  go_wp2_with fail
  refine (marksOf_any lo n A m c P _ (hR.bel hb1) Hm.out HGo.out).mono ?_
  rintro e w2 ⟨gm, rfl, hgm, hb2, hM⟩
  have hb12 := hb1.trans hb2
  have hs2 := hb12.size
  have hglt := hM.lt
  have HM := Lib.hid hM
  clear hM hb1 hb2
  go_wp2_with fail
  refine (blank_any _).mono ?_
  rintro e w3 ⟨rfl, hb3⟩
  have hmade := (MM.made w2).bel hb3
  have HMA := Lib.hid hmade
  have hmlt := hmade.lt
  clear hmade
  go_wp2_with ((refine wpList_insert_own _ 78 4 markKeyed Try.underlying97 bR w2.heap.size 1000 (setOf yesD (([] : List M3).map keyL)) rfl HMA.out.2 (by unfold maxLen; omega) _ _ (keyL (0, 0, 0)) rfl rfl (keyOf_mark (0, 0, 0) sml_zero) yesD [] (bR_mk true) ?_); intro w4 hown4 hgr4)
  have hb23 : Bel w2 w3 := ((Bel.refl w2).alloc _).trans hb3
  have hB24 : Bel w2 w4 := Below.grown hb23 hgr4 hb23.size (fun k hk => by injection hk with hk; omega)
  have hM4 := Lib.hid (HMA.out.put sml_zero (by simp) hown4)
  have hK4 : Hid (Marks w4 gm n P) := Row.bel HM.out hB24
  have hBw4 := hb12.trans hB24
  have hmlt4 : w2.heap.size < w4.heap.size := by have := hgr4.size; omega
  clear hown4 hgr4 hb3 hb23 hB24 HMA HM hmlt hmm
  go_wp2_with fail
  refine (allCases_any n _ hn13).mono ?_
  rintro e w5 ⟨AC, cC, rfl, hcC, hb5, hP5⟩
  have hs5 := hb5.size
  have HM5 := Lib.hid (hM4.out.bel hb5)
  have HK5 : Hid (Marks w5 gm n P) := Row.bel hK4.out hb5
  have HP5 := Lib.hid hP5
  have hBw5 := hBw4.trans hb5
  have hgl5 := HK5.out.lt
  clear hM4 hK4 hP5
  go_wp2
  go_loopw [10, 26] (fun _ i wr => ∃ k : Nat, k ≤ n * 2 ∧ i = .int .i64 k ∧ Bel w wr ∧ w5.heap.size ≤ wr.heap.size ∧ Marks wr gm n P ∧ Prs wr AC (casesL n) ∧ MM wr w2.heap.size ((keysP P n).take (k + 1))) (fun _ i _ => n * 2 - (intOf i).toNat)
  case atStart => exact ⟨0, Nat.zero_le _, rfl, hBw5, Nat.le_refl _, HK5.out, HP5.out, HM5.out⟩
  case round =>
    clear HM5 HK5 HP5 hBw5 hBw4 hb5
    obtain ⟨k, hk, rfl, hb, hsz, hK, hP, hM⟩ := hrel
    by_cases hlt : k < n * 2
    · have hat := casesL_at n k hlt
      obtain ⟨b, o, s, mm, rfl, hbl, hg, hc1, hc2⟩ := hP.at_ (k := k) (by rw [casesL_length]; exact hlt)
      rw [hat] at hg
      simp only [Option.some.injEq, Prod.mk.injEq] at hg
      obtain ⟨rfl, rfl⟩ := hg
      have hln : lotN k < n := by unfold lotN; omega
      have HK := Lib.hid hK; have HP := Lib.hid hP; have HM := Lib.hid hM; have HA := Lib.hid hat
      have hki : (k : Int) < ((n * 2 : Nat) : Int) := by omega
      have hk0 : (0 : Int) ≤ (k : Int) := by omega
      have hway := wayN_or k
      have HL := Lib.hid (show ((keysP P n).take (k + 1)).length < 1000 by rw [List.length_take, keysP_length]; omega)
      obtain ⟨wo, hwo⟩ : ∃ wo : World, wo = wr := ⟨_, rfl⟩
      subst hwo
      have hnm := hM.nocell
      have HNM := Lib.hid (show b ≠ w2.heap.size from fun e => by rw [e, hnm] at hc1; cases hc1)
      clear hK hP hM hat hnm
      go_wp2_with (first | (go_at_call 79; refine (answersTo_any gm n n (lotN k) (wayN k) P _ (Row.bel HK.out (by (repeat (first | exact Bel.refl _ | assumption | refine Bel.drew ?_ | refine Bel.drewN ?_ _ | refine Bel.alloc ?_ _ | refine Bel.setCell ?_ (by first | omega | (simp; done) | (simp; omega) | (simp at *; omega)) _ | refine Bel.trans ?_ (by assumption))))) hln hway).mono ?_; rintro e w6 ⟨rfl, hb6⟩; have hb06 : Bel wo w6 := (by (repeat (first | exact Bel.refl _ | assumption | refine Bel.drew ?_ | refine Bel.drewN ?_ _ | refine Bel.alloc ?_ _ | refine Bel.setCell ?_ (by first | omega | (simp; done) | (simp; omega) | (simp at *; omega)) _ | refine Bel.trans ?_ (by assumption)))); have hM6 := HM.out.bel hb06; have hlt6 := hb06.size) | (at_mapUpdate; go_loud (refine wpList_mapUpdate_own _ rfl _ _ _ 97 rfl 78 4 markKeyed Try.underlying97 bR w2.heap.size 1000 (setOf yesD (((keysP P n).take (k + 1)).map keyL)) rfl hM6.2 (by unfold maxLen; omega) _ _ (keyL (ansM P ((lotN k : Int), wayN k))) rfl rfl (keyOf_mark _ (sml_ans P _ _ hway)) yesD [] (bR_mk true) ?_); intro w7 hown7 hgr7))
      have hB7 : Bel w w7 := Below.grown (hb.trans hb06) hgr7 (hb.trans hb06).size (fun k hk => by injection hk with hk; omega)
      have hM7 := hM6.put (sml_ans P _ _ hway) HL.out hown7
      rw [← keysP_next P n k HA.out] at hM7
      have HM7 := Lib.hid hM7
      have HK7 : Hid (Marks w7 gm n P) := Marks.far (Row.bel HK.out hb06) hgr7 (by omega)
      have HP7 : Hid (Prs w7 (some ⟨b, o, none⟩) (casesL n)) := (HP.out.bel hb06).far rfl hgr7 HNM.out
      have hsz7 := hgr7.size
      clear hown7 hgr7 hM6 hM7
      go_wp2
      go_roundw
      case rel => exact ⟨k + 1, by omega, by go_num, hB7, by omega, HK7.out, HP7.out, HM7.out⟩
      case measure => simp [intOf]; omega
    · obtain rfl : k = n * 2 := by omega
      have hall : (keysP P n).take (n * 2 + 1) = keysP P n := List.take_of_length_le (by rw [keysP_length]; omega)
      rw [hall] at hM
      have HM := Lib.hid hM
      have hlen := hM.len
      have HPN : Hid ((cntD (keysP P n) : Int) = (possN P n : Int)) := rfl
      obtain ⟨z, hz⟩ : ∃ z, z = cntD (keysP P n) := ⟨_, rfl⟩
      rw [← hz] at hlen HPN
      clear hM hP hK hall hz
      go_wp2
      exact bodyPost_ret (v := .tuple #[.int .i64 (z : Int), .int .i64 0]) (by simp [results, Try.results67, go_sem]) rfl ⟨by rw [HPN.out], hb⟩
end Go.Proofs.Ytmckoehkekkldaa
