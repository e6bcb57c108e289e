/-
  The statement SunAddsSaid: for all tables and lists of numbers Rename and Add answer as the document says; renamed, the fewest upsets are as many, and one more strip never makes them fewer; all stays as it was in its spare cells, too, and the known answers come out. No condition.
-/
import Derived.Test.YtahkihifgafbnaaYV
import Derived.Test.YtahkihifgafbnaaXC
namespace Go.Proofs.Ytahkihifgafbnaa.sunAdds
open Go.ChangeShapes Go.WideShapes Go.ChangeAt Go.RowKit Go.Joins

/-- What Rename gives: its table, or nil. -/
def RenAt (w : World) (T : List (List Int)) (n : Nat) (l : List Int) (e : Ending) (w' : World) : Prop := Bel w w' ∧ ∃ A m c S, e = .returned (.tuple #[.slice A m c, .int .i64 (errO T l)]) ∧ Hid (m = S.length) ∧ Tab 0 w' A S ∧ Hid (S = (if errO T l = 0 then gridL (fun x y => rnF T l x y) n else []))
def AddV (w : World) (T : List (List Int)) (n : Nat) (l : List Int) (e : Ending) (w' : World) : Prop := Bel w w' ∧ ∃ A m c S, e = .returned (.tuple #[.slice A m c, .int .i64 (errB T l)]) ∧ Hid (m = S.length) ∧ Tab 0 w' A S ∧ Hid (S = (if errB T l = 0 then gridL (fun x y => adF T l n x y) (n + 1) else []))
theorem ren_of {fn n : Nat} {T : List (List Int)} {l : List Int} {args : Array Value} {w : World} (h7 : errO T l = 0 → n ≤ 7)
    (h0 : errO T l = 0 → Calls Try.prog fn args w fun e w' => ∃ v base, e = .returned (.tuple #[v, .int .i64 0]) ∧ w.heap.size ≤ base ∧ Bel w w' ∧ SqG base w' v n n (fun x y => rnF T l x y))
    (h1 : errO T l ≠ 0 → Calls Try.prog fn args w fun e w' => e = .returned (.tuple #[.slice none 0 0, .int .i64 (errO T l)]) ∧ Bel w w') : Calls Try.prog fn args w (RenAt w T n l) := by
  by_cases hz : errO T l = 0
  · refine (h0 hz).mono ?_
    rintro e w' ⟨v, base, rfl, hb, hB, hG⟩
    obtain ⟨A, m, c, rfl, hm, hT⟩ := (hG.gridT (h7 hz)).form
    exact ⟨hB, A, m, c, _, by rw [hz], Lib.hid hm, hT.low (Nat.zero_le _), Lib.hid (by rw [if_pos hz])⟩
  · refine (h1 hz).mono ?_
    rintro e w' ⟨rfl, hB⟩
    exact ⟨hB, none, 0, 0, [], rfl, Lib.hid rfl, .inl rfl, Lib.hid (by rw [if_neg hz])⟩
theorem add_of {fn n : Nat} {T : List (List Int)} {l : List Int} {args : Array Value} {w : World} (h7 : errB T l = 0 → n + 1 ≤ 7)
    (h0 : errB T l = 0 → Calls Try.prog fn args w fun e w' => ∃ v base, e = .returned (.tuple #[v, .int .i64 0]) ∧ w.heap.size ≤ base ∧ Bel w w' ∧ SqG base w' v (n + 1) (n + 1) (fun x y => adF T l n x y))
    (h1 : errB T l ≠ 0 → Calls Try.prog fn args w fun e w' => e = .returned (.tuple #[.slice none 0 0, .int .i64 (errB T l)]) ∧ Bel w w') : Calls Try.prog fn args w (AddV w T n l) := by
  by_cases hz : errB T l = 0
  · refine (h0 hz).mono ?_
    rintro e w' ⟨v, base, rfl, hb, hB, hG⟩
    obtain ⟨A, m, c, rfl, hm, hT⟩ := (hG.gridT (h7 hz)).form
    exact ⟨hB, A, m, c, _, by rw [hz], Lib.hid hm, hT.low (Nat.zero_le _), Lib.hid (by rw [if_pos hz])⟩
  · refine (h1 hz).mono ?_
    rintro e w' ⟨rfl, hB⟩
    exact ⟨hB, none, 0, 0, [], rfl, Lib.hid rfl, .inl rfl, Lib.hid (by rw [if_neg hz])⟩
theorem lens {T : List (List Int)} {n : Nat} {l : List Int} (hn : T.length = n) (h : errO T l = 0) : n ≤ 7 ∧ l.length = n := by
  obtain ⟨hE, hO⟩ := errO_parts h
  obtain ⟨⟨h1, h7⟩, -, -⟩ := errT_zero hE
  rw [hn] at h7 hO
  exact ⟨h7, hO.len⟩
theorem lensB {T : List (List Int)} {n : Nat} {l : List Int} (hn : T.length = n) (h : errB T l = 0) : n ≤ 6 ∧ l.length = n ∧ errT T = 0 ∧ rowB n l = true := by
  obtain ⟨hE, hO, h7'⟩ := errB_parts h
  obtain ⟨⟨h1, h7⟩, -, -⟩ := errT_zero hE
  rw [hn] at h7 hO h7'
  exact ⟨by omega, (rowB_iff.1 hO).2, hE, hO⟩
section
variable (A : Option Addr) (n c : Nat) (T : List (List Int)) (B : Option Addr) (q d : Nat) (l : List Int) (w : World) (hR : Tab 0 w A T) (hn : T.length = n) (hmax : n ≤ maxLen) (hJ : Ints w B l) (hq : l.length = q) (hqd : q ≤ d) (hqm : q ≤ maxLen)
include hR hn hmax hJ hq hqd hqm
theorem rren : Calls Try.prog 72 #[.slice A n c, .slice B q d] w (RenAt w T n l) :=
  ren_of (fun h => (lens hn h).1) (fun h => by obtain rfl : q = n := by rw [← hq]; exact (lens hn h).2
                                               exact rrename_ok 0 A q c T B d l w hR hn hJ hqd h) (fun h => rrename_err 0 A n c T B q d l w hR hn hmax hJ hq hqd hqm h)
theorem ren : Calls Try.prog 74 #[.slice A n c, .slice B q d] w (RenAt w T n l) :=
  ren_of (fun h => (lens hn h).1) (fun h => by obtain rfl : q = n := by rw [← hq]; exact (lens hn h).2
                                               exact rename_ok 0 A q c T B d l w hR hn hJ hqd h) (fun h => rename_err 0 A n c T B q d l w hR hn hmax hJ hq hqd hqm h)
omit hqd in
theorem radd : Calls Try.prog 73 #[.slice A n c, .slice B q d] w (AddV w T n l) :=
  add_of (fun h => by have := (lensB hn h).1; omega) (fun h => by
    obtain ⟨h6, hl, hE, hB⟩ := lensB hn h
    obtain rfl : q = n := by rw [← hq]; exact hl
    exact radd_ok 0 A q c T B d l w hR hn hJ hE hB h6) (fun h => radd_err 0 A n c T B q d l w hR hn hJ hq hqm h)
omit hqd in
theorem add : Calls Try.prog 75 #[.slice A n c, .slice B q d] w (AddV w T n l) :=
  add_of (fun h => by have := (lensB hn h).1; omega) (fun h => by
    obtain ⟨h6, hl, hE, hB⟩ := lensB hn h
    obtain rfl : q = n := by rw [← hq]; exact hl
    exact add_ok 0 A q c T B d l w hR hn hJ hE hB h6) (fun h => add_err 0 A n c T B q d l w hR hn hJ hq hqm h)
end
/-- Fewest, whatever the table. -/
def FewV (w : World) (T : List (List Int)) (n : Nat) (e : Ending) (w' : World) : Prop := e = .returned (.tuple #[.int .i64 (if errT T = 0 then ((bestS T n).2 : Int) else 0), .int .i64 (errT T)]) ∧ Bel w w'
set_option maxRecDepth 100000 in
set_option maxHeartbeats 1000000 in
theorem few (A : Option Addr) (n c : Nat) (T : List (List Int)) (w : World) (hR : Tab 0 w A T) (hn : T.length = n) : Calls Try.prog 61 #[.slice A n c] w (FewV w T n) := by
  by_cases hz : errT T = 0
  · refine (fewest_ok 0 A n c T w hR hn hz).mono ?_
    rintro e w' ⟨rfl, hb⟩
    exact ⟨by rw [if_pos hz, hz], hb⟩
  · have Hn := Lib.hid hn
    have HZ := Lib.hid hz
    have hE' : (errT T != 0) = true := by simpa using hz
    clear hn hz
    generalize hv : errT T = v at *
    have HV := Lib.hid hv
    clear hv
    go_enter Try.func61, Try.ntmps61
    go_wp2_with fail
    refine (validate_any 0 A n c T _ hR Hn.out).mono ?_
    rintro e w1 ⟨rfl, hb1⟩
    rw [HV.out]
    go_wp2
    exact bodyPost_ret (v := .tuple #[.int .i64 0, .int .i64 v]) (by simp [results, Try.results61, go_sem]) rfl ⟨by rw [HV.out, if_neg HZ.out], hb1⟩
set_option maxRecDepth 100000 in
set_option maxHeartbeats 8000000 in
theorem inner (A : Option Addr) (n c : Nat) (T : List (List Int)) (B : Option Addr) (q d : Nat) (l : List Int) (B' : Option Addr) (q' d' : Nat) (l' : List Int) (w : World) (hR : Tab 0 w A T) (hn : T.length = n) (hmax : n ≤ maxLen) (hJ : Ints w B l) (hq : l.length = q) (hqd : q ≤ d) (hqm : q ≤ maxLen)
    (hK : Ints w B' l') (hq' : l'.length = q') (hqm' : q' ≤ maxLen) :
    Calls Try.prog 33 #[.slice A n c, .slice B q d, .slice B' q' d'] w fun e w' => e = .returned (.bool true) ∧ Bel w w' := by
  have Hn := Lib.hid hn; have Hq := Lib.hid hq; have Hq' := Lib.hid hq'
  have HRE : Hid (errO T l = 0 → errT T = 0 ∧ errT (gridL (fun x y => rnF T l x y) n) = 0 ∧ (bestS (gridL (fun x y => rnF T l x y) n) n).2 = (bestS T n).2) := fun h => by
    obtain ⟨hE, hO⟩ := errO_parts h
    obtain ⟨⟨h1, h7⟩, -, -⟩ := errT_zero hE
    rw [hn] at h1 h7 hO
    have hb := beats_of hn hE
    exact ⟨hE, gridL_err (rnF_beats hb hO) h1 h7, rn_best hb h1 hO fun x y hx hy => gridL_ent hx hy⟩
  have HAD : Hid (errB T l' = 0 → errT T = 0 ∧ errT (gridL (fun x y => adF T l' n x y) (n + 1)) = 0 ∧ (bestS T n).2 ≤ (bestS (gridL (fun x y => adF T l' n x y) (n + 1)) (n + 1)).2) := fun h => by
    obtain ⟨h6, hl, hE, hB⟩ := lensB hn h
    have hb := beats_of hn hE
    exact ⟨hE, gridL_err (adF_beats hb hB) (by omega) (by omega), ad_best hb hB fun x y hx hy => gridL_ent hx hy⟩
  have HOE : Hid (∀ e : Int, (e != e) = false) := fun e => by simp
  clear hn hq hq'
  go_enter Try.func33, Try.ntmps33
  go_wp2_with fail
  refine (long_any 0 A n c T _ hR Hn.out hmax).mono ?_
  rintro e w1 ⟨⟨bl, rfl⟩, hw1⟩
  subst hw1
  cases bl with
  | true =>
    go_wp2_with fail
    refine (known_any _).mono ?_
    rintro e w9 ⟨rfl, hb9⟩
    go_wp2
    go_ret
    exact ⟨rfl, hb9⟩
  | false =>
    go_wp2_with fail
    refine (many_any B q d _).mono ?_
    rintro e w2 ⟨rfl, hw2⟩
    subst hw2
    cases decide (40 < q) with
    | true =>
      go_wp2_with fail
      refine (known_any _).mono ?_
      rintro e w9 ⟨rfl, hb9⟩
      go_wp2
      go_ret
      exact ⟨rfl, hb9⟩
    | false =>
      go_wp2_with fail
      refine (many_any B' q' d' _).mono ?_
      rintro e w2 ⟨rfl, hw2⟩
      subst hw2
      cases decide (40 < q') with
      | true =>
        go_wp2_with fail
        refine (known_any _).mono ?_
        rintro e w9 ⟨rfl, hb9⟩
        go_wp2
        go_ret
        exact ⟨rfl, hb9⟩
      | false =>
        go_wp2_with fail
        refine (rren A n c T B q d l _ hR Hn.out hmax hJ Hq.out hqd hqm).mono ?_
        rintro e w3 ⟨hb3, A3, n3, c3, S3, rfl, hn3, hT3, hS3⟩
        go_wp2_with fail
        refine (radd A n c T B' q' d' l' _ (hR.bel hb3) Hn.out hmax (hK.bel hb3) Hq'.out hqm').mono ?_
        rintro e w4 ⟨hb4', A4, n4, c4, S4, rfl, hn4, hT4, hS4⟩
        have hb4 := hb3.trans hb4'
        go_wp2_with fail
        refine (ren A n c T B q d l _ (hR.bel hb4) Hn.out hmax (hJ.bel hb4) Hq.out hqd hqm).mono ?_
        rintro e w5 ⟨hb5', A5, n5, c5, S5, rfl, hn5, hT5, hS5⟩
        have hb5 := hb4.trans hb5'
        go_wp2_with fail
        refine (add A n c T B' q' d' l' _ (hR.bel hb5) Hn.out hmax (hK.bel hb5) Hq'.out hqm').mono ?_
        rintro e w6 ⟨hb6', A6, n6, c6, S6, rfl, hn6, hT6, hS6⟩
        have hb6 := hb5.trans hb6'
        obtain rfl : S5 = S3 := by rw [hS5.out, hS3.out]
        obtain rfl : S6 = S4 := by rw [hS6.out, hS4.out]
        have hl5 : S5.length ≤ 7 := by
          rw [hS5.out]
          split
          · rename_i h
            rw [gridL_len]
            exact (lens Hn.out h).1
          · simp
        have hl6 : S6.length ≤ 7 := by
          rw [hS6.out]
          split
          · rename_i h
            rw [gridL_len]
            have := (lensB Hn.out h).1
            omega
          · simp
        have H5 := hn5; have H3 := hn3; have H6 := hn6; have H4 := hn4
        have hm5 : n5 ≤ maxLen := by have := hn5.out; unfold maxLen; omega
        have hm6 : n6 ≤ maxLen := by have := hn6.out; unfold maxLen; omega
        have HS5 := hS5; have HS6 := hS6
        obtain ⟨eo, heo⟩ : ∃ eo, eo = errO T l := ⟨_, rfl⟩
        obtain ⟨eb, heb⟩ : ∃ eb, eb = errB T l' := ⟨_, rfl⟩
        rw [← heo, ← heb]
        rw [← heo] at HRE HS5
        rw [← heb] at HAD HS6
        have heo2 := HOE.out eo
        have heb2 := HOE.out eb
        clear hS3 hS4 hS5 hS6 hn3 hn4 hn5 hn6 heo heb hl5 hl6
        go_wp2_with fail
        refine (sameTables_any 0 0 A5 A3 n5 c5 n3 c3 S5 _ (hT5.bel hb6') (hT3.bel (hb4'.trans (hb5'.trans hb6'))) H5.out.symm H3.out.symm hm5).mono ?_
        rintro e w7 ⟨rfl, hb7⟩
        go_wp2_with fail
        refine (sameTables_any 0 0 A6 A4 n6 c6 n4 c4 S6 _ (hT6.bel hb7) (hT4.bel ((hb5'.trans hb6').trans hb7)) H6.out.symm H4.out.symm hm6).mono ?_
        rintro e w8 ⟨rfl, hb8⟩
        have hb68 := hb7.trans hb8
        have hb08 := hb6.trans hb68
        by_cases h0 : eo = 0
        · subst h0
          obtain ⟨k1, k2, k3⟩ := HRE.out rfl
          have hs5 := HS5.out
          rw [if_pos rfl] at hs5
          obtain rfl : n5 = n := by rw [H5.out, hs5, gridL_len]
          rw [← hs5] at k2 k3
          have K1 := Lib.hid k1; have K2 := Lib.hid k2; have K3 := Lib.hid k3
          obtain ⟨f2, hf2⟩ : ∃ f2, f2 = (bestS T n5).2 := ⟨_, rfl⟩
          have HF2 := Lib.hid hf2
          have hff : ((f2 : Int) != (f2 : Int)) = false := by simp
          clear k1 k2 k3 hs5 hf2
          go_wp2_with fail
          refine (fewest_ok 0 A n5 c T _ (hR.bel hb08) Hn.out K1.out).mono ?_
          rintro e w9 ⟨rfl, hb9⟩
          rw [← HF2.out]
          go_wp2_with fail
          refine (fewest_ok 0 A5 n5 c5 S5 _ (hT5.bel ((hb6'.trans hb68).trans hb9)) H5.out.symm K2.out).mono ?_
          rintro e w10 ⟨rfl, hb10⟩
          rw [K3.out, ← HF2.out]
          have hb010 := (hb08.trans hb9).trans hb10
          by_cases h1 : eb = 0
          · subst h1
            obtain ⟨k1, k2, k3⟩ := HAD.out rfl
            have hs6 := HS6.out
            rw [if_pos rfl] at hs6
            obtain rfl : n6 = n5 + 1 := by rw [H6.out, hs6, gridL_len]
            rw [← hs6] at k2 k3
            have K4 := Lib.hid k2
            obtain ⟨f3, hf3⟩ : ∃ f3, f3 = (bestS S6 (n5 + 1)).2 := ⟨_, rfl⟩
            rw [← hf3, ← HF2.out] at k3
            have HF3 := Lib.hid hf3
            have hlt : ¬ ((f3 : Int) < (f2 : Int)) := by omega
            clear k1 k2 k3 hs6 hf3
            go_wp2_with fail
            refine (fewest_ok 0 A6 (n5 + 1) c6 S6 _ (hT6.bel ((hb68.trans hb9).trans hb10)) H6.out.symm K4.out).mono ?_
            rintro e w11 ⟨rfl, hb11⟩
            rw [← HF3.out]
            go_wp2_with fail
            refine (known_any _).mono ?_
            rintro e w20 ⟨rfl, hb20⟩
            go_wp2
            go_ret
            exact ⟨rfl, (hb010.trans hb11).trans hb20⟩
          · have hbe : (eb == 0) = false := by simpa using h1
            go_wp2_with fail
            refine (known_any _).mono ?_
            rintro e w20 ⟨rfl, hb20⟩
            go_wp2
            go_ret
            exact ⟨rfl, hb010.trans hb20⟩
        · have hoe : (eo == 0) = false := by simpa using h0
          by_cases h1 : eb = 0
          · subst h1
            obtain ⟨k1, k2, k3⟩ := HAD.out rfl
            have hs6 := HS6.out
            rw [if_pos rfl] at hs6
            obtain rfl : n6 = n + 1 := by rw [H6.out, hs6, gridL_len]
            rw [← hs6] at k2 k3
            have K1 := Lib.hid k1; have K4 := Lib.hid k2
            obtain ⟨f2, hf2⟩ : ∃ f2, f2 = (bestS T n).2 := ⟨_, rfl⟩
            obtain ⟨f3, hf3⟩ : ∃ f3, f3 = (bestS S6 (n + 1)).2 := ⟨_, rfl⟩
            rw [← hf3, ← hf2] at k3
            have HF2 := Lib.hid hf2
            have HF3 := Lib.hid hf3
            have hlt : ¬ ((f3 : Int) < (f2 : Int)) := by omega
            clear k1 k2 k3 hs6 hf3 hf2
            go_wp2_with fail
            refine (fewest_ok 0 A n c T _ (hR.bel hb08) Hn.out K1.out).mono ?_
            rintro e w9 ⟨rfl, hb9⟩
            rw [← HF2.out]
            go_wp2_with fail
            refine (fewest_ok 0 A6 (n + 1) c6 S6 _ (hT6.bel (hb68.trans hb9)) H6.out.symm K4.out).mono ?_
            rintro e w11 ⟨rfl, hb11⟩
            rw [← HF3.out]
            go_wp2_with fail
            refine (known_any _).mono ?_
            rintro e w20 ⟨rfl, hb20⟩
            go_wp2
            go_ret
            exact ⟨rfl, ((hb08.trans hb9).trans hb11).trans hb20⟩
          · have hbe : (eb == 0) = false := by simpa using h1
            go_wp2_with fail
            refine (few A n c T _ (hR.bel hb08) Hn.out).mono ?_
            rintro e w9 ⟨rfl, hb9⟩
            generalize (if errT T = 0 then ((bestS T n).2 : Int) else 0) = fv
            generalize errT T = ev
            go_wp2_with fail
            refine (known_any _).mono ?_
            rintro e w20 ⟨rfl, hb20⟩
            go_wp2
            go_ret
            exact ⟨rfl, (hb08.trans hb9).trans hb20⟩

set_option maxRecDepth 100000 in
set_option maxHeartbeats 1000000 in
theorem walk (A : Option Addr) (n c : Nat) (Z : List RowZ) (B : Option Addr) (q d : Nat) (zs : List Int) (B' : Option Addr) (q' d' : Nat) (zs' : List Int) (w : World) (hx : ArgT w A n c Z) (hy : ArgI w B q d zs) (hz : ArgI w B' q' d' zs') :
    Calls Try.prog 15 #[.slice A n c, .slice B q d, .slice B' q' d'] w fun e w' => e = .returned (.bool true) ∧ Bel w w' := by
  obtain ⟨x1, x2, x3⟩ := hx.els
  obtain ⟨y1, y2, y3⟩ := hy.els
  obtain ⟨z1, z2, z3⟩ := hz.els
  go_enter Try.func15, Try.ntmps15
  go_wp2_with fail
  refine (keepTable_any A n c Z _ hx).mono ?_
  rintro e w1 ⟨A', n', c', rfl, hn', hb1, hr1⟩
  have HN := Lib.hid hn'; clear hn'
  go_wp2_with fail
  refine (keepInts_any B q d zs _ (hy.ints.bel hb1) hy.len hy.le hy.nil hy.reach).mono ?_
  rintro e w2 ⟨A2, n2, c2, rfl, hn2, hb2', hI2, hlo2⟩
  have HN2 := Lib.hid hn2; clear hn2 hlo2
  have hb2 := hb1.trans hb2'
  go_wp2_with fail
  refine (keepInts_any B' q' d' zs' _ (hz.ints.bel hb2) hz.len hz.le hz.nil hz.reach).mono ?_
  rintro e w3 ⟨A3, n3, c3, rfl, hn3, hb3', hI3, hlo3⟩
  have HN3 := Lib.hid hn3; clear hn3 hlo3
  have hb3 := hb2.trans hb3'
  go_wp2_with fail
  refine (inner A n c _ B q d _ B' q' d' _ _ (x1.bel hb3) x2 x3 (y1.bel hb3) y2 hy.le y3 (z1.bel hb3) z2 z3).mono ?_
  rintro e w4 ⟨rfl, hb4'⟩
  have hb4 := hb3.trans hb4'
  go_wp2_with fail
  refine (keptTable_any A' A n' c' n c Z _ ((hr1.low (Nat.zero_le _)).bel ((hb2'.trans hb3').trans hb4')) (hx.bel hb4) HN.out).mono ?_
  rintro e w5 ⟨rfl, hb5'⟩
  have hb5 := hb4.trans hb5'
  go_wp2_with fail
  refine (keptInts_any A2 B n2 c2 q d zs _ (hI2.bel (hb3'.trans (hb4'.trans hb5'))) (hy.ints.bel hb5) HN2.out.symm hy.len hy.le hy.nil (reachN_le hy.reach (by omega)).1).mono ?_
  rintro e w6 ⟨rfl, hb6'⟩
  have hb6 := hb5.trans hb6'
  go_wp2_with fail
  refine (keptInts_any A3 B' n3 c3 q' d' zs' _ (hI3.bel (hb4'.trans (hb5'.trans hb6'))) (hz.ints.bel hb6) HN3.out.symm hz.len hz.le hz.nil (reachN_le hz.reach (by omega)).1).mono ?_
  rintro e w7 ⟨rfl, hb7⟩
  go_wp2
  go_ret
  exact ⟨rfl, hb6.trans hb7⟩

set_option maxRecDepth 100000 in
theorem lifted (os : Os) (started : os.Started) (H : Type) (enc : TypeId × Value → H) :
    ReturnsInHanded {} Try.checked os 15 .any (Rows.sunAddsSpec.pre6 enc Try.prog Try.f15 Rows.sunAddsRow.domain false) (Rows.sunAddsSpec.post enc Try.prog Try.f15 false true false false) := by
  refine returnsInHanded_of_change_sized (C := Try.checked) own started (by kernel_rfl) Try.func15
    (ChangeSpec.witness6 (enc := enc) (C := Try.checked) false ⟨#[], #[.slice none 0 0, .slice none 0 0, .slice none 0 0], []⟩ 8 (by kernel_rfl) (by kernel_rfl) (by kernel_rfl) (by kernel_rfl)) ?_
  intro W base args ds gs before hval0 hW hcnd hsz0 _
  have hval : ∀ (j : Nat) t v, Try.f15.params[j]? = some t → args[j]? = some v → Value.okWide Try.prog W .any base t v := hval0
  have hsz : (DataW.weightsEach Try.prog (Try.f15.params.toList ++ Rows.sunAddsSpec.plain.varTypes Try.prog) (ds ++ gs)).all (· ≤ reachBytes) = true := hsz0
  have hW' := hW
  obtain ⟨p, q, hA0, hV, rfl, hfz, hnd⟩ := hW
  have hA : DataW.TrodAll enc Try.prog W 0 (fun _ => true) true Try.f15.params.toList args.toList ds p := hA0
  rw [Try.params15] at hA hval hsz
  obtain ⟨v0, vs0, d0, ds0, p0, q0, hargs, rfl, rfl, h0, r0⟩ := trodAll_cons hA
  obtain ⟨v1, vs1, d1, ds1, p1, q1, rfl, rfl, rfl, h1, r1⟩ := trodAll_cons r0
  obtain ⟨v2, vs2, d2, ds2, p2, q2, rfl, rfl, rfl, h2, r2⟩ := trodAll_cons r1
  obtain ⟨rfl, rfl, rfl⟩ := trodAll_nil r2
  obtain rfl : args = #[v0, v1, v2] := by cases args; simp_all
  obtain ⟨rfl, rfl⟩ := trodVars_none hV
  have k0 := h0
  have lt0 : ∀ x ∈ p0, x.block < W.heap.size := by obtain ⟨m, hm⟩ := k0; exact DataW.trod_lt m _ _ _ hm
  have k1 := h1
  have lt1 : ∀ x ∈ p1, x.block < W.heap.size := by obtain ⟨m, hm⟩ := k1; exact DataW.trod_lt m _ _ _ hm
  have k2 := h2
  have lt2 : ∀ x ∈ p2, x.block < W.heap.size := by obtain ⟨m, hm⟩ := k2; exact DataW.trod_lt m _ _ _ hm
  have hr0 : ∀ k ∈ d0.weights Try.prog 22, k ≤ reachN := fun k hk => by rw [← reach_eq]; simpa using List.all_eq_true.1 hsz k (DataW.weights_mem_each (j := 0) rfl rfl k hk)
  obtain ⟨A0, n0, c0, zs0, rfl, a0⟩ := open_argT (hval 0 22 v0 rfl rfl) h0 hr0
  have hr1 : ∀ k ∈ d1.weights Try.prog 26, k ≤ reachN := fun k hk => by rw [← reach_eq]; simpa using List.all_eq_true.1 hsz k (DataW.weights_mem_each (j := 1) rfl rfl k hk)
  obtain ⟨A1, n1, c1, zs1, rfl, a1⟩ := open_argI (hval 1 26 v1 rfl rfl) h1 hr1
  have hr2 : ∀ k ∈ d2.weights Try.prog 26, k ≤ reachN := fun k hk => by rw [← reach_eq]; simpa using List.all_eq_true.1 hsz k (DataW.weights_mem_each (j := 2) rfl rfl k hk)
  obtain ⟨A2, n2, c2, zs2, rfl, a2⟩ := open_argI (hval 2 26 v2 rfl rfl) h2 hr2
  clear hA0 hval0
  refine (walk A0 n0 c0 zs0 A1 n1 c1 zs1 A2 n2 c2 zs2 W a0 a1 a2).mono fun e W' ⟨he, bel⟩ => ?_
  subst he
  exact ⟨_, rfl, _, _, _, [], _, [], hW', trodAll_mk1 (shut_bool Try.underlying4 _), trodAll_cons_mk (Below.trod laidOut (by kernel_rfl) (of_decide_eq_true (by kernel_rfl)) k0 bel lt0) (trodAll_cons_mk (Below.trod laidOut (by kernel_rfl) (of_decide_eq_true (by kernel_rfl)) k1 bel lt1) (trodAll_cons_mk (Below.trod laidOut (by kernel_rfl) (of_decide_eq_true (by kernel_rfl)) k2 bel lt2) (trodAll_mk0))), rfl, Below.frame bel _, fun h => by cases h⟩

theorem over : Rows.sunAddsRow.holds Try.pinned (OpenSpec.ofChange Rows.sunAddsSpec) :=
  OpenClaim.holds_of_wide 15 Try.f15 rfl rfl rfl rfl rfl rfl rfl ⟨rfl, rfl, rfl, rfl, rfl⟩ rfl rfl rfl rfl rfl (by kernel_rfl) Try.func15 (by kernel_rfl)
    (of_decide_eq_true (by kernel_rfl)) (by unfold Func.isWrapper; rw [if_neg (of_decide_eq_false (by kernel_rfl))]; exact ⟨rfl, rfl⟩)
    (fun os started H enc _ => lifted os started H enc)

/-- The statement. -/
theorem proved : Rows.SunAddsSaid := over
end Go.Proofs.Ytahkihifgafbnaa.sunAdds
