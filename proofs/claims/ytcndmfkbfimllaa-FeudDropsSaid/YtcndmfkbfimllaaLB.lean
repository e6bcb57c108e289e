/-
  The statement FeudDropsSaid: for all shops and numbers Drop and Merge answer as the document says, what Drop returns shares no memory with its argument, the lists stay as they were in their spare cells, too, and the known answers come out. No condition.
-/
import Derived.Test.YtcndmfkbfimllaaOP
import Derived.Test.YtcndmfkbfimllaaBK
import Derived.Laws.OwnMore
namespace Go.Proofs.Ytcndmfkbfimllaa.feudDrops
open Go.ChangeShapes Go.WideShapes Go.ChangeAt Go.RowKit Go.Joins

/-- A shop whose feuds are the call's own, and an error. -/
def ShopO (w : World) (p : Int) (l : List (Int × Int)) (x : Int) (e : Ending) (w' : World) : Prop := ∃ base A n c, e = .returned (.tuple #[.agg #[.int .i64 p, .slice A n c], .int .i64 x]) ∧ w.heap.size ≤ base ∧ n = l.length ∧ Bel w w' ∧ Own2 45 base w' (.slice A n c) l
theorem dropO (p : Int) (n : Nat) (F : List (Int × Int)) (k : Int) (hn : F.length = n) (h60 : n ≤ 900) :
    ∃ q l, l.length ≤ n ∧ ∀ (w : World) (A : Option Addr) (c : Nat), Prs w A F →
      Calls Try.prog 74 #[.agg #[.int .i64 p, .slice A n c], .int .i64 k] w (ShopO w q l (errK p F k)) ∧
      Calls Try.prog 72 #[.agg #[.int .i64 p, .slice A n c], .int .i64 k] w (ShopAny w q l (errK p F k)) := by
  by_cases he : errK p F k = 0
  · obtain ⟨h0, h1, h2⟩ := errK_cases he
    obtain ⟨m, rfl⟩ : ∃ m : Nat, k = m := ⟨k.toNat, by omega⟩
    refine ⟨p, F.eraseIdx m, by have := List.length_eraseIdx_le (l := F) (i := m); omega, fun w A c hR => ?_⟩
    rw [he]
    exact ⟨drop_own p A n c F m w hR hn h60 h0 (by omega), rDrop_ok p A n c F m w hR hn h60 h0 (by omega)⟩
  · refine ⟨0, [], by simp, fun w A c hR => ⟨(drop_err p A n c F k w hR hn h60 he).mono fun e w' h => ?_, (rDrop_err p A n c F k w hR hn h60 he).mono fun _ _ h => h.any⟩⟩
    obtain ⟨h1, h2⟩ := h
    exact ⟨w.heap.size, none, 0, 0, h1, Nat.le_refl _, rfl, h2, Own2.nil _ _ _⟩
/-- The cells that the law overwrites: each still holds an integer, and none is frozen. -/
def Writ (w : World) (lo hi : Nat) (A : Option Addr) (n : Nat) : Prop := n = 0 ∨ ∃ g, A = some ⟨g, 0, none⟩ ∧ lo ≤ g ∧ g < hi ∧ (∀ j, w.frozen? ⟨g, j, none⟩ = false) ∧ ∀ j, j < n → ∃ s : Int, w.cell? ⟨g, j * 2, none⟩ = some (.int .i64 s)
theorem Writ.of {w : World} {base : Nat} {A : Option Addr} {n c : Nat} {l : List (Int × Int)} (h : Own2 45 base w (.slice A n c) l) (hn : n = l.length) : Writ w base w.heap.size A n := by
  rcases Nat.eq_zero_or_pos n with h0 | h0
  · exact .inl h0
  · obtain ⟨b, o, s, m, hA, -, -, -, -⟩ := h.prs.at_ (k := 0) (by omega)
    subst hA
    have hlt := World.ownsRow.lt h b rfl
    have hform : o = 0 := by
      rcases h.2 with ⟨hv, h0'⟩ | ⟨g, cap, cur, hv, _⟩
      · cases hv
      · injection hv with hv; injection hv with hv; injection hv
    subst hform
    subst hn
    have h' : w.ownsRow base 45 2 (.slice (some ⟨b, 0, none⟩) l.length c) l.length (cel2 l) := h
    refine .inr ⟨b, rfl, hlt.1, hlt.2, fun j => World.ownsRow.frozenAt h' j, fun j hj => ?_⟩
    obtain ⟨b', o', s', m', hA', -, -, hc, -⟩ := h.prs.at_ (k := j) (by omega)
    injection hA' with hA'
    injection hA' with e1 e2
    subst e1 e2
    exact ⟨s', by simpa using hc⟩
theorem Writ.bel {w w' : World} {lo hi : Nat} {A : Option Addr} {n : Nat} (h : Writ w lo hi A n) (hb : Bel w w') (hs : hi ≤ w.heap.size) : Writ w' lo hi A n := by
  rcases h with h | ⟨g, h1, h2, h3, h4, h5⟩
  · exact .inl h
  · refine .inr ⟨g, h1, h2, h3, fun j => by rw [hb.use.2.1 _ _ (by omega)]; exact h4 j, fun j hj => ?_⟩
    obtain ⟨s, hs⟩ := h5 j hj
    exact ⟨s, by rw [hb.use.1 _ _ (by omega)]; exact hs⟩
theorem Writ.put {w : World} {lo hi g i : Nat} {n : Nat} (h : Writ w lo hi (some ⟨g, 0, none⟩) n) (hi' : i < n) (z : Int) : Writ (w.setCell ⟨g, i * 2, none⟩ (.int .i64 z)) lo hi (some ⟨g, 0, none⟩) n := by
  rcases h with h | ⟨g', h1, h2, h3, h4, h5⟩
  · omega
  · injection h1 with h1
    injection h1 with h1
    subst h1
    refine .inr ⟨g, rfl, h2, h3, fun j => by rw [World.frozen?_setCell]; exact h4 j, fun j hj => ?_⟩
    by_cases hji : j = i
    · subst hji
      obtain ⟨s, hs⟩ := h5 j hj
      exact ⟨z, World.cell?_setCell_same _ _ _ hs⟩
    · obtain ⟨s, hs⟩ := h5 j hj
      exact ⟨s, by rw [World.cell?_setCell_other _ _ _ _ (by first | (simp; done) | (simp; omega))]; exact hs⟩

set_option maxRecDepth 100000 in
set_option maxHeartbeats 4000000 in
theorem inner (p : Int) (A : Option Addr) (n c : Nat) (F : List (Int × Int)) (k : Int) (w : World) (hR : Prs w A F) (hn : F.length = n) :
    Calls Try.prog 31 #[.agg #[.int .i64 p, .slice A n c], .int .i64 k] w fun e w' => e = .returned (.bool true) ∧ Bel w w' := by
  have Hn := Lib.hid hn
  have Held := Lib.hid (fun w' (h : Bel (w.alloc (.cells #[.int .i64 p, .slice A n c] 24)) w') => pair_box h)
  have hb0 : Bel w (w.alloc (.cells #[.int .i64 p, .slice A n c] 24)) := (Bel.refl w).alloc _
  by_cases h60 : 60 < n
  · have HL := Lib.hid (decide_eq_true h60)
    clear hn
    go_enter Try.func31, Try.ntmps31
    go_wp2_with fail
    refine (long_any p A n c _).mono ?_
    rintro e w1 ⟨rfl, hb1⟩
    rw [HL.out]
    go_wp2_with fail
    refine (known_any _).mono ?_
    rintro e w2 ⟨rfl, hb2⟩
    go_wp2
    go_ret
    exact ⟨rfl, by (repeat (first | exact Bel.refl _ | assumption | refine Bel.drew ?_ | refine Bel.drewN ?_ _ | refine Bel.alloc ?_ _ | refine Bel.setCell ?_ (by first | omega | (simp; done) | (simp; omega) | (simp at *; omega)) _ | refine Bel.trans ?_ (by assumption)))⟩
  · have HL := Lib.hid (decide_eq_false h60)
    have hn9 : n ≤ 900 := by omega
    have hn10 : n ≤ 1000 := by omega
    obtain ⟨q, l, hl, hD⟩ := dropO p n F k hn hn9
    obtain ⟨q2, l2, hl2, hM⟩ := merge_both p n F k hn hn9
    obtain ⟨x, hx⟩ : ∃ x, x = errK p F k := ⟨_, rfl⟩
    rw [← hx] at hD hM
    have HD := Lib.hid hD; have HM := Lib.hid hM
    have HLl := Lib.hid hl; have HLl2 := Lib.hid hl2
    clear hx hD hM hl hl2 h60 hn
    go_enter Try.func31, Try.ntmps31
    go_wp2_with fail
    refine (long_any p A n c _).mono ?_
    rintro e w1 ⟨rfl, hb1⟩
    rw [HL.out]
    obtain ⟨c0, c1⟩ := Held.out _ hb1
    go_wp2_with fail
    refine (rCopy_any p A n c F _ (hR.bel (hb0.trans hb1)) Hn.out hn10).mono ?_
    rintro e w2 ⟨A1, n1, c1', rfl, hn1, hb2, hP1, hf1⟩
    obtain rfl : n1 = n := by rw [hn1]; exact Hn.out
    have hB2 := hb1.trans hb2
    clear c0 c1 hn1 hf1
    obtain ⟨c0, c1⟩ := Held.out _ hB2
    have hz2 : w.heap.size < w2.heap.size := by have := hB2.size; simp at this; omega
    have H5 := Lib.hid (fun w' (h : Bel (w2.alloc (.cells #[.int .i64 p, .slice A1 n1 c1'] 24)) w') => pair_box h)
    have hB2a : Bel (w.alloc (.cells #[.int .i64 p, .slice A n1 c] 24)) (w2.alloc (.cells #[.int .i64 p, .slice A1 n1 c1'] 24)) := hB2.alloc _
    go_wp2_with fail
    refine (HD.out _ A c (hR.bel (by (repeat (first | exact Bel.refl _ | assumption | refine Bel.drew ?_ | refine Bel.drewN ?_ _ | refine Bel.alloc ?_ _ | refine Bel.setCell ?_ (by first | omega | (simp; done) | (simp; omega) | (simp at *; omega)) _ | refine Bel.trans ?_ (by assumption)))))).2.mono ?_
    rintro e w3 ⟨A2, n2, c2, rfl, hn2, hb3, hP2, -⟩
    have HN2 := Lib.hid hn2
    have hz3 : w2.heap.size < w3.heap.size := by have := hb3.size; simp at this; omega
    have hz3' : w.heap.size < w3.heap.size := by omega
    have H6 := Lib.hid (fun w' (h : Bel (w3.alloc (.cells #[.int .i64 q, .slice A2 n2 c2] 24)) w') => pair_box h)
    have hb3a : Bel (w2.alloc (.cells #[.int .i64 p, .slice A1 n1 c1'] 24)) (w3.alloc (.cells #[.int .i64 q, .slice A2 n2 c2] 24)) := hb3.alloc _
    have hB3 := hB2a.trans hb3a
    clear c0 c1 hn2
    obtain ⟨c0, c1⟩ := Held.out _ (hB2a.trans hb3)
    go_wp2_with fail
    refine (HM.out _ A c (hR.bel (hb0.trans hB3))).2.mono ?_
    rintro e w4 ⟨A3, n3, c3, rfl, hn3, hb4, hP3, -⟩
    have HN3 := Lib.hid hn3
    have hz4 : w3.heap.size < w4.heap.size := by have := hb4.size; simp at this; omega
    have hz4' : w2.heap.size < w4.heap.size := by omega
    have H8 := Lib.hid (fun w' (h : Bel (w4.alloc (.cells #[.int .i64 q2, .slice A3 n3 c3] 24)) w') => pair_box h)
    have hb4a : Bel (w3.alloc (.cells #[.int .i64 q, .slice A2 n2 c2] 24)) (w4.alloc (.cells #[.int .i64 q2, .slice A3 n3 c3] 24)) := hb4.alloc _
    have hB5 := hb3a.trans hb4a
    clear c0 c1 hn3
    obtain ⟨k0, k1⟩ := H5.out _ (hb3a.trans hb4)
    go_wp2_with fail
    refine (HD.out _ A1 c1' (hP1.bel (by (repeat (first | exact Bel.refl _ | assumption | refine Bel.drew ?_ | refine Bel.drewN ?_ _ | refine Bel.alloc ?_ _ | refine Bel.setCell ?_ (by first | omega | (simp; done) | (simp; omega) | (simp at *; omega)) _ | refine Bel.trans ?_ (by assumption)))))).1.mono ?_
    rintro e w5 ⟨base, A4, n4, c4, rfl, hbase, hn4, hb5, hO5⟩
    have HN4 := Lib.hid hn4
    have hz5 : w4.heap.size < w5.heap.size := by have := hb5.size; simp at this; omega
    have hz5' : w2.heap.size < w5.heap.size := by omega
    have hW := Lib.hid (Writ.of hO5 hn4)
    have HP4 := Lib.hid hO5.prs
    have H10 := Lib.hid (fun w' (h : Bel (w5.alloc (.cells #[.int .i64 q, .slice A4 n4 c4] 24)) w') => pair_box h)
    have hb5a : Bel (w4.alloc (.cells #[.int .i64 q2, .slice A3 n3 c3] 24)) (w5.alloc (.cells #[.int .i64 q, .slice A4 n4 c4] 24)) := hb5.alloc _
    have hn4b : n4 ≤ 900 := by have := HLl.out; omega
    clear k0 k1 hn4 hO5
    obtain ⟨k0, k1⟩ := H5.out _ (hB5.trans hb5)
    go_wp2_with fail
    refine (HM.out _ A1 c1' (hP1.bel (by (repeat (first | exact Bel.refl _ | assumption | refine Bel.drew ?_ | refine Bel.drewN ?_ _ | refine Bel.alloc ?_ _ | refine Bel.setCell ?_ (by first | omega | (simp; done) | (simp; omega) | (simp at *; omega)) _ | refine Bel.trans ?_ (by assumption)))))).1.mono ?_
    rintro e w6 ⟨A5, n5, c5, rfl, hn5, hb6, hP5, -⟩
    have HN5 := Lib.hid hn5
    have hz6 : w5.heap.size < w6.heap.size := by have := hb6.size; simp at this; omega
    have hz6' : w3.heap.size < w6.heap.size := by omega
    have hz6'' : w4.heap.size < w6.heap.size := by omega
    have H12 := Lib.hid (fun w' (h : Bel (w6.alloc (.cells #[.int .i64 q2, .slice A5 n5 c5] 24)) w') => pair_box h)
    have hb6a : Bel (w5.alloc (.cells #[.int .i64 q, .slice A4 n4 c4] 24)) (w6.alloc (.cells #[.int .i64 q2, .slice A5 n5 c5] 24)) := hb6.alloc _
    clear k0 k1 hn5
    obtain ⟨a0, a1⟩ := H10.out _ hb6
    obtain ⟨b0, b1⟩ := H6.out _ ((hb4a.trans hb5a).trans hb6)
    go_wp2_with fail
    refine (rSame_any q A4 A2 n4 c4 n2 c2 l _ (HP4.out.bel (by (repeat (first | exact Bel.refl _ | assumption | refine Bel.drew ?_ | refine Bel.drewN ?_ _ | refine Bel.alloc ?_ _ | refine Bel.setCell ?_ (by first | omega | (simp; done) | (simp; omega) | (simp at *; omega)) _ | refine Bel.trans ?_ (by assumption))))) (hP2.bel (by (repeat (first | exact Bel.refl _ | assumption | refine Bel.drew ?_ | refine Bel.drewN ?_ _ | refine Bel.alloc ?_ _ | refine Bel.setCell ?_ (by first | omega | (simp; done) | (simp; omega) | (simp at *; omega)) _ | refine Bel.trans ?_ (by assumption))))) HN4.out.symm HN2.out.symm (by omega)).mono ?_
    rintro e w7 ⟨rfl, hb7⟩
    clear a0 a1 b0 b1
    obtain ⟨a0, a1⟩ := H12.out _ hb7
    obtain ⟨b0, b1⟩ := H8.out _ ((hb5a.trans hb6a).trans hb7)
    go_wp2_with fail
    refine (rSame_any q2 A5 A3 n5 c5 n3 c3 l2 _ (hP5.bel (by (repeat (first | exact Bel.refl _ | assumption | refine Bel.drew ?_ | refine Bel.drewN ?_ _ | refine Bel.alloc ?_ _ | refine Bel.setCell ?_ (by first | omega | (simp; done) | (simp; omega) | (simp at *; omega)) _ | refine Bel.trans ?_ (by assumption))))) (hP3.bel (by (repeat (first | exact Bel.refl _ | assumption | refine Bel.drew ?_ | refine Bel.drewN ?_ _ | refine Bel.alloc ?_ _ | refine Bel.setCell ?_ (by first | omega | (simp; done) | (simp; omega) | (simp at *; omega)) _ | refine Bel.trans ?_ (by assumption))))) HN5.out.symm HN3.out.symm (by have := HN5.out; have := HLl2.out; omega)).mono ?_
    rintro e w8 ⟨rfl, hb8⟩
    clear a0 a1 b0 b1
    have hb78 : Bel (w6.alloc (.cells #[.int .i64 q2, .slice A5 n5 c5] 24)) w8 := hb7.trans hb8
    have hb58 : Bel (w5.alloc (.cells #[.int .i64 q, .slice A4 n4 c4] 24)) w8 := hb6a.trans hb78
    have hs8 : w5.heap.size < w8.heap.size := by have := hb58.size; simp at this; omega
    have hW8 := hW.out.bel (((Bel.refl w5).alloc _).trans hb58) (Nat.le_refl _)
    have hbs : w4.heap.size < base := by simp at hbase; omega
    have hb48 : Bel (w4.alloc (.cells #[.int .i64 q2, .slice A3 n3 c3] 24)) w8 := hb5a.trans hb58
    have h10 := H10.out _ hb58
    go_wp2
    go_loopw [14] (fun i wr => ∃ i' : Nat, i' ≤ n4 ∧ i = .int .i64 i' ∧ Bel (w4.alloc (.cells #[.int .i64 q2, .slice A3 n3 c3] 24)) wr ∧ (wr.cell? ⟨w5.heap.size, 0, none⟩ = some (.int .i64 q) ∧ wr.cell? ⟨w5.heap.size, 1, none⟩ = some (.slice A4 n4 c4)) ∧ Writ wr base w5.heap.size A4 n4 ∧ w5.heap.size < wr.heap.size) (fun i _ => n4 - (intOf i).toNat)
    case atStart => exact ⟨0, Nat.zero_le _, rfl, hb48, h10, hW8, hs8⟩
    case round =>
      clear hb48 h10 hW8 hs8
      obtain ⟨i', hi', rfl, hb, ⟨a0, a1⟩, hWr, hsr⟩ := hrel
      by_cases hlt : i' < n4
      · have hin : (i' : Int) < (n4 : Int) := by omega
        have HWr := Lib.hid hWr
        rcases hWr with h0 | ⟨g, rfl, hlo, hhi, hfz, hcl⟩
        · omega
        · obtain ⟨s, hs⟩ := hcl i' hlt
          have hfz' := hfz (i' * 2)
          have hgs : g < wr.heap.size := by omega
          clear hcl hfz
          go_wp2
          go_roundw
          case rel =>
            refine ⟨i' + 1, by omega, by go_num, hb.setCell (by simp; omega) _, ⟨?_, ?_⟩, HWr.out.put hlt _, by rw [setCell_size]; exact hsr⟩
            · rw [World.cell?_setCell_other _ _ _ _ (fun e => by have := congrArg Addr.block e; simp at this; omega)]; exact a0
            · rw [World.cell?_setCell_other _ _ _ _ (fun e => by have := congrArg Addr.block e; simp at this; omega)]; exact a1
          case measure => simp [intOf]; omega
      · obtain rfl : i' = n4 := by omega
        obtain ⟨k0, k1⟩ := H5.out _ (hB5.trans hb)
        obtain ⟨c0, c1⟩ := Held.out _ (hB2a.trans (hB5.trans hb))
        have hbw : Bel w wr := hb0.trans (hB2a.trans (hB5.trans hb))
        have hbw2 : Bel w2 wr := ((Bel.refl w2).alloc _).trans (hB5.trans hb)
        go_wp2_with fail
        refine (rSame_any p A1 A n1 c1' n1 c F _ (hP1.bel hbw2) (hR.bel hbw) Hn.out Hn.out hn10).mono ?_
        rintro e w9 ⟨rfl, hb9⟩
        go_wp2_with fail
        refine (known_any _).mono ?_
        rintro e w10 ⟨rfl, hb10⟩
        go_wp2
        go_ret
        exact ⟨rfl, hbw.trans (hb9.trans hb10)⟩

set_option maxRecDepth 100000 in
set_option maxHeartbeats 1000000 in
theorem walk (p : Int) (A : Option Addr) (n c : Nat) (zs : List (Int × Int)) (k : Int) (w : World) (h : Arg2 w A n c zs) :
    Calls Try.prog 13 #[.agg #[.int .i64 p, .slice A n c], .int .i64 k] w fun e w' => e = .returned (.bool true) ∧ Bel w w' := by
  obtain ⟨e1, e2, e3⟩ := h.els
  have hc9 := (reachN_le h.reach (by omega)).1
  have Held := Lib.hid (fun w' (h : Bel (w.alloc (.cells #[.int .i64 p, .slice A n c] 24)) w') => pair_box h)
  have hb0 : Bel w (w.alloc (.cells #[.int .i64 p, .slice A n c] 24)) := (Bel.refl w).alloc _
  go_enter Try.func13, Try.ntmps13
  go_wp2_with fail
  refine (keepFeuds_any A n c zs _ (h.prs.bel hb0) h.len h.le h.nil h.reach).mono ?_
  rintro e w1 ⟨A', n', c', rfl, hn', hb1, hr1⟩
  have HN := Lib.hid hn'; clear hn'
  obtain ⟨c0, c1⟩ := Held.out _ hb1
  go_wp2_with fail
  refine (inner p A n c _ k _ (e1.bel (hb0.trans hb1)) e2).mono ?_
  rintro e w3 ⟨rfl, hb3⟩
  have hB3 := hb1.trans hb3
  clear c0 c1
  obtain ⟨c0, c1⟩ := Held.out _ hB3
  go_wp2_with fail
  refine (keptFeuds_any A' A n' c' n c zs _ (hr1.bel hb3) (h.prs.bel (hb0.trans hB3)) HN.out.symm h.len h.le h.nil hc9).mono ?_
  rintro e w4 ⟨rfl, hb4⟩
  go_wp2
  go_ret
  exact ⟨rfl, hb0.trans (hB3.trans hb4)⟩

set_option maxRecDepth 100000 in
theorem lifted (os : Os) (started : os.Started) (H : Type) (enc : TypeId × Value → H) :
    ReturnsInHanded {} Try.checked os 13 .any (Rows.feudDropsSpec.pre6 enc Try.prog Try.f13 Rows.feudDropsRow.domain false) (Rows.feudDropsSpec.post enc Try.prog Try.f13 false true false false) := by
  refine returnsInHanded_of_change_sized (C := Try.checked) own started (by kernel_rfl) Try.func13
    (ChangeSpec.witness6 (enc := enc) (C := Try.checked) false ⟨#[], #[.agg #[.int .i64 0, .slice none 0 0], .int .i64 0], []⟩ 8 (by kernel_rfl) (by kernel_rfl) (by kernel_rfl) (by kernel_rfl)) ?_
  intro W base args ds gs before hval0 hW hcnd hsz0 _
  have hval : ∀ (j : Nat) t v, Try.f13.params[j]? = some t → args[j]? = some v → Value.okWide Try.prog W .any base t v := hval0
  have hsz : (DataW.weightsEach Try.prog (Try.f13.params.toList ++ Rows.feudDropsSpec.plain.varTypes Try.prog) (ds ++ gs)).all (· ≤ reachBytes) = true := hsz0
  have hW' := hW
  obtain ⟨p, q, hA0, hV, rfl, hfz, hnd⟩ := hW
  have hA : DataW.TrodAll enc Try.prog W 0 (fun _ => true) true Try.f13.params.toList args.toList ds p := hA0
  rw [Try.params13] at hA hval hsz
  obtain ⟨v0, vs0, d0, ds0, p0, q0, hargs, rfl, rfl, h0, r0⟩ := trodAll_cons hA
  obtain ⟨v1, vs1, d1, ds1, p1, q1, rfl, rfl, rfl, h1, r1⟩ := trodAll_cons r0
  obtain ⟨rfl, rfl, rfl⟩ := trodAll_nil r1
  obtain rfl : args = #[v0, v1] := by cases args; simp_all
  obtain ⟨rfl, rfl⟩ := trodVars_none hV
  have k0 := h0
  have lt0 : ∀ x ∈ p0, x.block < W.heap.size := by obtain ⟨m, hm⟩ := k0; exact DataW.trod_lt m _ _ _ hm
  have k1 := h1
  have lt1 : ∀ x ∈ p1, x.block < W.heap.size := by obtain ⟨m, hm⟩ := k1; exact DataW.trod_lt m _ _ _ hm
  have hr0 : ∀ k ∈ d0.weights Try.prog 24, k ≤ reachN := fun k hk => by rw [← reach_eq]; simpa using List.all_eq_true.1 hsz k (DataW.weights_mem_each (j := 0) rfl rfl k hk)
  obtain ⟨x0, A0, n0, c0, zs0, rfl, a0⟩ := open_shop (hval 0 24 v0 rfl rfl) h0 hr0
  obtain ⟨x1, rfl, rfl, rfl, w1⟩ := open_int Try.underlying3 (hval 1 3 v1 rfl rfl) h1
  clear hA0 hval0
  refine (walk x0 A0 n0 c0 zs0 x1 W a0).mono fun e W' ⟨he, bel⟩ => ?_
  subst he
  exact ⟨_, rfl, _, _, _, [], _, [], hW', trodAll_mk1 (shut_bool Try.underlying4 _), trodAll_cons_mk (Below.trod laidOut (by kernel_rfl) (of_decide_eq_true (by kernel_rfl)) k0 bel lt0) (trodAll_cons_mk (shut_int Try.underlying3 w1) (trodAll_mk0)), rfl, Below.frame bel _, fun h => by cases h⟩

theorem over : Rows.feudDropsRow.holds Try.pinned (OpenSpec.ofChange Rows.feudDropsSpec) :=
  OpenClaim.holds_of_wide 13 Try.f13 rfl rfl rfl rfl rfl rfl rfl ⟨rfl, rfl, rfl, rfl, rfl⟩ rfl rfl rfl rfl rfl (by kernel_rfl) Try.func13 (by kernel_rfl)
    (of_decide_eq_true (by kernel_rfl)) (by unfold Func.isWrapper; rw [if_neg (of_decide_eq_false (by kernel_rfl))]; exact ⟨rfl, rfl⟩)
    (fun os started H enc _ => lifted os started H enc)

/-- The statement. -/
theorem proved : Rows.FeudDropsSaid := over
end Go.Proofs.Ytcndmfkbfimllaa.feudDrops
