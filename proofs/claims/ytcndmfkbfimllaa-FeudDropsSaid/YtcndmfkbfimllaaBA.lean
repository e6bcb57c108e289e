/- feud.Drop, walked. -/
import Derived.Test.YtcndmfkbfimllaaQ
namespace Go.Proofs.Ytcndmfkbfimllaa
open Go.RowKit Go.Maps

/-- The error of a shop and the number of a feud. -/
def errK (p : Int) (F : List (Int × Int)) (k : Int) : Int := if errF p F = 0 then if 0 ≤ k ∧ k < (F.length : Int) then 0 else 4 else errF p F
theorem errK_bad {p : Int} {F : List (Int × Int)} {k : Int} (h : errF p F ≠ 0) : errK p F k = errF p F := by unfold errK; rw [if_neg h]
theorem errK_no {p : Int} {F : List (Int × Int)} {k : Int} (h : errF p F = 0) (hs : ¬ (0 ≤ k ∧ k < (F.length : Int))) : errK p F k = 4 := by unfold errK; rw [if_pos h, if_neg hs]
theorem errK_ok {p : Int} {F : List (Int × Int)} {k : Int} (h : errF p F = 0) (hs : 0 ≤ k ∧ k < (F.length : Int)) : errK p F k = 0 := by unfold errK; rw [if_pos h, if_pos hs]
set_option maxRecDepth 100000 in
theorem validateFeud_any (p : Int) (A : Option Addr) (n c : Nat) (F : List (Int × Int)) (k : Int) (w : World) (hR : Prs w A F) (hn : F.length = n) (h60 : n ≤ 900) :
    Calls Try.prog 109 #[.agg #[.int .i64 p, .slice A n c], .int .i64 k] w fun e w' => e = .returned (.int .i64 (errK p F k)) ∧ Bel w w' := by
  have Hn := Lib.hid hn
  have Held := Lib.hid (fun w' (h : Bel (w.alloc (.cells #[.int .i64 p, .slice A n c] 24)) w') => pair_box h)
  have hni : (n : Int) ≤ 900 := by omega
  by_cases he : errF p F = 0
  · have HE := Lib.hid he
    by_cases hs : 0 ≤ k ∧ k < (n : Int)
    · have HS := Lib.hid (errK_ok (k := k) he (by rw [hn]; exact hs))
      obtain ⟨s1, s2⟩ := hs
      clear he hn
      go_enter Try.func109, Try.ntmps109
      go_wp2_with fail
      refine (validate_any p A n c F _ (hR.bel (by (repeat (first | exact Bel.refl _ | assumption | refine Bel.drew ?_ | refine Bel.drewN ?_ _ | refine Bel.alloc ?_ _ | refine Bel.setCell ?_ (by first | omega | (simp; done) | (simp; omega) | (simp at *; omega)) _ | refine Bel.trans ?_ (by assumption))))) Hn.out h60).mono ?_
      rintro e w1 ⟨rfl, hb1⟩
      rw [HE.out]
      obtain ⟨b0, b1⟩ := Held.out _ hb1
      go_wp2
      go_ret
      exact ⟨ret_int HS.out.symm, by (repeat (first | exact Bel.refl _ | assumption | refine Bel.drew ?_ | refine Bel.drewN ?_ _ | refine Bel.alloc ?_ _ | refine Bel.setCell ?_ (by first | omega | (simp; done) | (simp; omega) | (simp at *; omega)) _ | refine Bel.trans ?_ (by assumption)))⟩
    · have HS := Lib.hid (errK_no (k := k) he (by rw [hn]; exact hs))
      rcases (by omega : k < 0 ∨ (0 ≤ k ∧ (n : Int) ≤ k)) with h1 | ⟨h1, h2⟩
      · clear he hn hs
        go_enter Try.func109, Try.ntmps109
        go_wp2_with fail
        refine (validate_any p A n c F _ (hR.bel (by (repeat (first | exact Bel.refl _ | assumption | refine Bel.drew ?_ | refine Bel.drewN ?_ _ | refine Bel.alloc ?_ _ | refine Bel.setCell ?_ (by first | omega | (simp; done) | (simp; omega) | (simp at *; omega)) _ | refine Bel.trans ?_ (by assumption))))) Hn.out h60).mono ?_
        rintro e w1 ⟨rfl, hb1⟩
        rw [HE.out]
        obtain ⟨b0, b1⟩ := Held.out _ hb1
        go_wp2
        go_ret
        exact ⟨ret_int HS.out.symm, by (repeat (first | exact Bel.refl _ | assumption | refine Bel.drew ?_ | refine Bel.drewN ?_ _ | refine Bel.alloc ?_ _ | refine Bel.setCell ?_ (by first | omega | (simp; done) | (simp; omega) | (simp at *; omega)) _ | refine Bel.trans ?_ (by assumption)))⟩
      · clear he hn hs
        go_enter Try.func109, Try.ntmps109
        go_wp2_with fail
        refine (validate_any p A n c F _ (hR.bel (by (repeat (first | exact Bel.refl _ | assumption | refine Bel.drew ?_ | refine Bel.drewN ?_ _ | refine Bel.alloc ?_ _ | refine Bel.setCell ?_ (by first | omega | (simp; done) | (simp; omega) | (simp at *; omega)) _ | refine Bel.trans ?_ (by assumption))))) Hn.out h60).mono ?_
        rintro e w1 ⟨rfl, hb1⟩
        rw [HE.out]
        obtain ⟨b0, b1⟩ := Held.out _ hb1
        go_wp2
        go_ret
        exact ⟨ret_int HS.out.symm, by (repeat (first | exact Bel.refl _ | assumption | refine Bel.drew ?_ | refine Bel.drewN ?_ _ | refine Bel.alloc ?_ _ | refine Bel.setCell ?_ (by first | omega | (simp; done) | (simp; omega) | (simp at *; omega)) _ | refine Bel.trans ?_ (by assumption)))⟩
  · have HS := Lib.hid (errK_bad (k := k) he)
    obtain ⟨x, hx⟩ : ∃ x, x = errF p F := ⟨_, rfl⟩
    have hne : (x != 0) = true := by rw [hx]; simpa using he
    have HX := Lib.hid hx
    clear he hx hn
    go_enter Try.func109, Try.ntmps109
    go_wp2_with fail
    refine (validate_any p A n c F _ (hR.bel (by (repeat (first | exact Bel.refl _ | assumption | refine Bel.drew ?_ | refine Bel.drewN ?_ _ | refine Bel.alloc ?_ _ | refine Bel.setCell ?_ (by first | omega | (simp; done) | (simp; omega) | (simp at *; omega)) _ | refine Bel.trans ?_ (by assumption))))) Hn.out h60).mono ?_
    rintro e w1 ⟨rfl, hb1⟩
    rw [← HX.out]
    go_wp2
    go_ret
    exact ⟨ret_int (HX.out.trans HS.out.symm), by (repeat (first | exact Bel.refl _ | assumption | refine Bel.drew ?_ | refine Bel.drewN ?_ _ | refine Bel.alloc ?_ _ | refine Bel.setCell ?_ (by first | omega | (simp; done) | (simp; omega) | (simp at *; omega)) _ | refine Bel.trans ?_ (by assumption)))⟩

/-- The first i feuds without the feud k. -/
def drTo (F : List (Int × Int)) (k i : Nat) : List (Int × Int) := (F.take i).eraseIdx k
theorem drTo_zero (F : List (Int × Int)) (k : Nat) : drTo F k 0 = [] := by simp [drTo]
theorem drTo_skip {F : List (Int × Int)} {k : Nat} (hk : k < F.length) : drTo F k (k + 1) = drTo F k k := by
  have h : F[k]? = some F[k] := List.getElem?_eq_getElem hk
  have hl : (F.take k).length = k := by rw [List.length_take]; omega
  unfold drTo
  rw [take_at h, List.eraseIdx_append_of_length_le (by omega), hl, Nat.sub_self, List.eraseIdx_of_length_le (l := F.take k) (by omega)]
  simp
theorem drTo_next {F : List (Int × Int)} {k i : Nat} {a : Int × Int} (h : F[i]? = some a) (hne : i ≠ k) : drTo F k (i + 1) = drTo F k i ++ [a] := by
  have hi : i < F.length := (List.getElem?_eq_some_iff.1 h).1
  have hl : (F.take i).length = i := by rw [List.length_take]; omega
  unfold drTo
  rw [take_at h]
  rcases (by omega : i < k ∨ k < i) with h1 | h1
  · rw [List.eraseIdx_of_length_le (by simp [hl]; omega), List.eraseIdx_of_length_le (by omega)]
  · rw [List.eraseIdx_append_of_lt_length (by omega)]
theorem drTo_len (F : List (Int × Int)) (k i : Nat) : (drTo F k i).length ≤ i := by
  unfold drTo
  have := List.length_eraseIdx_le (l := F.take i) (i := k)
  have := List.length_take_le i F
  omega
theorem Own2.far {e base : Nat} {w : World} {v : Value} {l : List (Int × Int)} (h : Own2 e base w v l) {p : Addr} (hp : p.block < base) (u : Value) : Own2 e base (w.setCell p u) v l :=
  World.ownsRow.kept (row := some p.block) h ⟨rfl, rfl, rfl, by simp [World.setCell], fun k _ hne => Below.heap_setCell _ _ _ _ (fun e => hne (by rw [e]))⟩ (by
    cases hv : v.ownBlock with
    | none => exact .inl rfl
    | some k =>
      refine .inr (fun e => ?_)
      have := (World.ownsRow.lt h k hv).1
      injection e with e
      omega)
theorem Prs.far {w : World} {A : Option Addr} {gs : List (Int × Int)} (h : Prs w A gs) {p : Addr} (hne : ∀ b o, A = some ⟨b, o, none⟩ → b ≠ p.block) (u : Value) : Prs (w.setCell p u) A gs := by
  rcases h with h | ⟨b, o, rfl, hl, hc⟩
  · exact .inl h
  · refine .inr ⟨b, o, rfl, by simpa [World.setCell] using hl, fun j s m hj => ?_⟩
    have hne' := hne b o rfl
    rw [World.cell?_setCell_other _ _ _ _ (fun e => hne' (by have := congrArg Addr.block e; first | exact this | exact this.symm)), World.cell?_setCell_other _ _ _ _ (fun e => hne' (by have := congrArg Addr.block e; first | exact this | exact this.symm))]
    exact hc j s m hj
/-- A struct of the call's own, whose second field is a slice of its own. -/
structure Outs (w wr : World) (g : Nat) (p : Int) (l : List (Int × Int)) : Prop where
  bel : Bel w wr
  own : ∃ v, wr.cell? ⟨g, 1, none⟩ = some v ∧ Own2 45 (g + 1) wr v l
  c0 : wr.cell? ⟨g, 0, none⟩ = some (.int .i64 p)
  fz : ∀ o, wr.frozen? ⟨g, o, none⟩ = false
  lt : g < wr.heap.size
  le : w.heap.size ≤ g
theorem Outs.beL {w wr w' : World} {g : Nat} {p : Int} {l : List (Int × Int)} (h : Outs w wr g p l) (hb : Bel wr w') : Outs w w' g p l := by
  obtain ⟨v, h1, h2⟩ := h.own
  exact ⟨h.bel.trans hb, ⟨v, by rw [hb.use.1 _ _ h.lt]; exact h1, h2.bel hb⟩, by rw [hb.use.1 _ _ h.lt]; exact h.c0, fun o => by rw [hb.use.2.1 _ _ h.lt]; exact h.fz o, Nat.lt_of_lt_of_le h.lt hb.size, h.le⟩
/-- Behind an append to the field, and its store. -/
theorem Outs.put {w wr W w3 : World} {g : Nat} {p a b : Int} {l : List (Int × Int)} {v v' : Value} (h : Outs w wr g p l) (hv : wr.cell? ⟨g, 1, none⟩ = some v) (hW : Bel wr W) (hg : W.grownBy w3 v.ownBlock) (hown : w3.ownsRow (g + 1) 45 2 v' (l.length + 1) (cel2 l ++ [.int .i64 a, .int .i64 b])) :
    Outs w (w3.setCell ⟨g, 1, none⟩ v') g p (l ++ [(a, b)]) := by
  obtain ⟨v1, h1, h2⟩ := h.own
  rw [hv] at h1
  injection h1 with h1
  subst h1
  have hlt := h.lt
  have hW2 := hW.size
  have hO := h2.bel hW
  have hne : v.ownBlock ≠ some g := fun e => by have := (World.ownsRow.lt h2 g e).1; omega
  have hbl := hg.block g (by omega) (fun e => hne e.symm)
  have cell : ∀ o, w3.cell? ⟨g, o, none⟩ = wr.cell? ⟨g, o, none⟩ := fun o => (World.cell?_of_block (w := W) (a := ⟨g, o, none⟩) hbl).trans (hW.use.1 _ _ hlt)
  have hs3 := hg.size
  refine ⟨(Below.grown (h.bel.trans hW) hg (h.bel.trans hW).size (fun i hi => ?_)).setCell h.le _, ⟨v', ?_, ?_⟩, ?_, fun o => ?_, ?_, h.le⟩
  · have := (World.ownsRow.lt h2 i hi).1; have := h.le; omega
  · exact World.cell?_setCell_same _ _ _ (u := v) (by rw [cell]; exact hv)
  · exact (Own2.snoc hown).far (by simp) _
  · rw [World.cell?_setCell_other _ _ _ _ (by simp), cell]; exact h.c0
  · rw [World.frozen?_setCell, World.frozen?_of_block (w := W) (a := ⟨g, o, none⟩) hbl, hW.use.2.1 _ _ hlt]; exact h.fz o
  · simp [World.setCell]; omega
theorem newF (w : World) (a b : Int) (ty : TypeId) (g : Nat) (hg : g = w.heap.size) : ∀ j u, [Value.int .i64 a, .int .i64 b][j]? = some u → (w.alloc (.cells #[.int .i64 a, .int .i64 b] ty)).cell? ((⟨g, 0, none⟩ : Addr).add j) = some u := by
  subst hg
  exact new2 w a b ty
/-- The struct's cells behind an append to its field. -/
theorem out_kept {w wr W w3 : World} {g : Nat} {p : Int} {l : List (Int × Int)} {v : Value} (h : Outs w wr g p l) (hv : wr.cell? ⟨g, 1, none⟩ = some v) (hW : Bel wr W) (hg : W.grownBy w3 v.ownBlock) : w3.cell? ⟨g, 1, none⟩ = some v ∧ w3.frozen? ⟨g, 1, none⟩ = false ∧ g < w3.heap.size := by
  obtain ⟨v1, h1, h2⟩ := h.own
  rw [hv] at h1
  injection h1 with h1
  subst h1
  have hlt := h.lt
  have hW2 := hW.size
  have hs3 := hg.size
  have hne : v.ownBlock ≠ some g := fun e => by have := (World.ownsRow.lt h2 g e).1; omega
  have hbl := hg.block g (by omega) (fun e => hne e.symm)
  exact ⟨((World.cell?_of_block (w := W) (a := ⟨g, 1, none⟩) hbl).trans (hW.use.1 _ _ hlt)).trans hv, by rw [World.frozen?_of_block (w := W) (a := ⟨g, 1, none⟩) hbl, hW.use.2.1 _ _ hlt]; exact h.fz 1, by omega⟩
def ShopRes (w : World) (p : Int) (l : List (Int × Int)) (e : Ending) (w' : World) : Prop := ∃ A n c, e = .returned (.tuple #[.agg #[.int .i64 p, .slice A n c], .int .i64 0]) ∧ n = l.length ∧ Bel w w' ∧ Prs w' A l ∧ ∀ b o, A = some ⟨b, o, none⟩ → w.heap.size ≤ b ∧ b < w'.heap.size

set_option maxRecDepth 100000 in
set_option maxHeartbeats 2000000 in
theorem drop_ok (p : Int) (A : Option Addr) (n c : Nat) (F : List (Int × Int)) (k : Nat) (w : World) (hR : Prs w A F) (hn : F.length = n) (h60 : n ≤ 900) (he : errF p F = 0) (hk : k < n) :
    Calls Try.prog 74 #[.agg #[.int .i64 p, .slice A n c], .int .i64 (k : Int)] w (ShopRes w p (F.eraseIdx k)) := by
  obtain ⟨i0, hi, hz0, hz1, hz2⟩ := info_parts info2F
  have HE := Lib.hid (errK_ok (k := (k : Int)) he (by rw [hn]; omega))
  have Hn := Lib.hid hn
  have Held := Lib.hid (fun w' (h : Bel (w.alloc (.cells #[.int .i64 p, .slice A n c] 24)) w') => pair_box h)
  have hki : (k : Int) < (n : Int) := by omega
  have hni : (n : Int) ≤ 900 := by omega
  clear hn he
  go_enter Try.func74, Try.ntmps74
  go_wp2_with fail
  refine (validateFeud_any p A n c F k _ (hR.bel (by (repeat (first | exact Bel.refl _ | assumption | refine Bel.drew ?_ | refine Bel.drewN ?_ _ | refine Bel.alloc ?_ _ | refine Bel.setCell ?_ (by first | omega | (simp; done) | (simp; omega) | (simp at *; omega)) _ | refine Bel.trans ?_ (by assumption))))) Hn.out h60).mono ?_
  rintro e w1 ⟨rfl, hb1⟩
  rw [HE.out]
  have hb01 : Bel (w.alloc (.cells #[.int .i64 p, .slice A n c] 24)) w1 := ((Bel.refl _).alloc _).trans hb1
  obtain ⟨b0, b1⟩ := Held.out _ hb01
  have hsz1 : w.heap.size < w1.heap.size := by have := hb1.size; simp at this; omega
  have hsz2 : w.heap.size + 1 < w1.heap.size := by have := hb1.size; simp at this; omega
  have hres := Lib.hid (fun w' (h : Bel w1 w') => show (w'.cell? ⟨w.heap.size + 1, 0, none⟩ = some (.int .i64 0) ∧ w'.cell? ⟨w.heap.size + 1, 1, none⟩ = some (.slice none 0 0)) ∧ ∀ o, w'.frozen? ⟨w.heap.size + 1, o, none⟩ = false from by
    have h2 := hb1.trans h
    refine ⟨⟨?_, ?_⟩, fun o => ?_⟩
    · rw [h2.use.1 _ _ (by simp)]; go_simp
    · rw [h2.use.1 _ _ (by simp)]; go_simp
    · rw [h2.use.2.1 _ _ (by simp)]; go_simp)
  have hO0 : Outs w1 (w1.alloc (.cells #[.int .i64 p, .slice none 0 0] 24)) w1.heap.size p (drTo F k 0) := by
    rw [drTo_zero]
    exact ⟨(Bel.refl w1).alloc _, ⟨.slice none 0 0, by go_simp, Own2.nil _ _ _⟩, by go_simp, fun o => by go_simp, by simp, Nat.le_refl _⟩
  go_wp2
  go_loopw [23] (fun i wr => ∃ q : Nat, q ≤ n ∧ i = .int .i64 q ∧ Outs w1 wr w1.heap.size p (drTo F k q)) (fun i _ => n - (intOf i).toNat)
  case atStart => exact ⟨0, Nat.zero_le _, rfl, hO0⟩
  case round =>
    clear hO0
    obtain ⟨q, hq, rfl, hO⟩ := hrel
    have hbw : Bel w wr := ((Bel.refl w).alloc _).trans (hb01.trans hO.bel)
    by_cases hlt : q < n
    · have hqn : (q : Int) < (n : Int) := by omega
      obtain ⟨b, o, x, y, rfl, hbl, hg, hc1, hc2⟩ := (hR.bel hbw).at_ (k := q) (by rw [Hn.out]; exact hlt)
      by_cases hqk : q = k
      · have HQ := Lib.hid (show drTo F k (q + 1) = drTo F k q by rw [hqk]; exact drTo_skip (by rw [Hn.out]; omega))
        have hqk2 : ((q : Int) == (k : Int)) = true := by simpa using (show (q : Int) = (k : Int) by omega)
        have hqk3 : (q == k) = true := by simpa using hqk
        clear hg hqk
        go_wp2
        go_roundw
        case rel => exact ⟨q + 1, by omega, by go_num, by rw [HQ.out]; exact hO.beL (by (repeat (first | exact Bel.refl _ | assumption | refine Bel.drew ?_ | refine Bel.drewN ?_ _ | refine Bel.alloc ?_ _ | refine Bel.setCell ?_ (by first | omega | (simp; done) | (simp; omega) | (simp at *; omega)) _ | refine Bel.trans ?_ (by assumption))))⟩
        case measure => simp [intOf]; omega
      · have HQ := Lib.hid (drTo_next hg hqk)
        have hqk2 : ((q : Int) == (k : Int)) = false := by simpa using (fun e : (q : Int) = (k : Int) => hqk (by omega))
        have hqk3 : (q == k) = false := by simpa using hqk
        obtain ⟨v, hv, hOv⟩ := hO.own
        have HO := Lib.hid hO
        have hwl := drTo_len F k q
        obtain ⟨X, hX⟩ : ∃ X, X = drTo F k q := ⟨_, rfl⟩
        rw [← hX] at hOv hwl HO
        have HX := Lib.hid hX
        have hX1 := Lib.hid (show X.length + 1 ≤ maxLen by unfold maxLen; omega)
        have hX2 := Lib.hid (show (X.length + 1) * 16 ≤ 140737488355328 by omega)
        have hltw : w1.heap.size < wr.heap.size := hO.lt
        have hfz := hO.fz 1
        have hb0 : Bel wr (wr.alloc (.cells #[.int .i64 x, .int .i64 y] 45)) := (Bel.refl wr).alloc _
        have HOv := Lib.hid (hOv.bel hb0)
        clear hg hqk hX hOv hO
        go_wp2_with (at_builtin; go_loud (refine wpList_append_lies _ rfl (.tmp 32) (.tmp 34) 22 rfl (w1.heap.size + 1) 45 i0 _ 2 16 Try.underlying22 hi hz0 hz1 hz2 rfl (by decide) v X.length (cel2 X) (by rfl) (HOv.out.alloc _) ⟨wr.heap.size + 1, 0, none⟩ 1 1 [.int .i64 x, .int .i64 y] (by rfl) rfl (newF _ _ _ _ _ (by simp)) (one2 _ _) (by omega) hX1.out hX2.out (by simp; omega) _ rfl ?_); intro g3 cap3 w3 hown3 hgr3 hat3 hlt3; obtain ⟨hk1, hk2, hk3⟩ := out_kept HO.out hv (hb0.alloc _) hgr3)
        have HO3 := Lib.hid (HO.out.put hv (hb0.alloc _) hgr3 hown3)
        clear hown3 hgr3 hat3 hlt3
        go_roundw
        case rel => exact ⟨q + 1, by omega, by go_num, by rw [HQ.out, ← HX.out]; exact HO3.out⟩
        case measure => simp [intOf]; omega
    · obtain rfl : q = n := by omega
      have e9 : drTo F k q = F.eraseIdx k := by unfold drTo; rw [List.take_of_length_le (by rw [Hn.out]; omega)]
      rw [e9] at hO
      obtain ⟨v, hv, hOv⟩ := hO.own
      obtain ⟨A9, n9, c9, rfl, hn9⟩ := hOv.form
      have HP := Lib.hid hOv.prs
      have HN9 := Lib.hid hn9
      have HLT := Lib.hid (show ∀ b o, A9 = some ⟨b, o, none⟩ → w1.heap.size + 1 ≤ b ∧ b < wr.heap.size from fun b o e => by
        subst e
        exact World.ownsRow.lt hOv b rfl)
      obtain ⟨⟨r0, r1⟩, rf⟩ := hres.out _ hO.bel
      have rf0 := rf 0
      have rf1 := rf 1
      have c0 := hO.c0
      have hltw : w1.heap.size < wr.heap.size := hO.lt
      have hw1 := hO.bel
      have HR0 := Lib.hid r0; have HR1 := Lib.hid r1
      clear hn9 e9 hO hOv rf
      go_wp2
      obtain ⟨q0, q1⟩ := stored2 (x := .int .i64 p) (y := .slice A9 n9 c9) HR0.out HR1.out
      refine bodyPost_ret (v := .tuple #[.agg #[.int .i64 p, .slice A9 n9 c9], .int .i64 0]) (by simp [results, Try.results74, go_sem, q0, q1]) rfl ⟨A9, n9, c9, rfl, HN9.out, by (repeat (first | exact Bel.refl _ | assumption | refine Bel.drew ?_ | refine Bel.drewN ?_ _ | refine Bel.alloc ?_ _ | refine Bel.setCell ?_ (by first | omega | (simp; done) | (simp; omega) | (simp at *; omega)) _ | refine Bel.trans ?_ (by assumption))), ?_, ?_⟩
      · refine (HP.out.far (fun b o e => ?_) _).far (fun b o e => ?_) _ <;> (have := (HLT.out b o e).1; simp; omega)
      · intro b o e
        have h1 := HLT.out b o e
        have h2 := hw1.size
        exact ⟨by omega, by simp [World.setCell]; exact h1.2⟩
end Go.Proofs.Ytcndmfkbfimllaa
