/- feud.Drop: its result is the call's own; Drop and Merge of both, errors and answers in one. -/
import Derived.Test.YtcndmfkbfimllaaBJ
namespace Go.Proofs.Ytcndmfkbfimllaa
open Go.RowKit Go.Maps

/-- A new shop whose feuds are the call's own, and no error. -/
def ShopOwn (w : World) (p : Int) (l : List (Int × Int)) (e : Ending) (w' : World) : Prop := ∃ base A n c, e = .returned (.tuple #[.agg #[.int .i64 p, .slice A n c], .int .i64 0]) ∧ w.heap.size ≤ base ∧ n = l.length ∧ Bel w w' ∧ Own2 45 base w' (.slice A n c) l
set_option maxRecDepth 100000 in
set_option maxHeartbeats 2000000 in
theorem drop_own (p : Int) (A : Option Addr) (n c : Nat) (F : List (Int × Int)) (k : Nat) (w : World) (hR : Prs w A F) (hn : F.length = n) (h60 : n ≤ 900) (he : errF p F = 0) (hk : k < n) :
    Calls Try.prog 74 #[.agg #[.int .i64 p, .slice A n c], .int .i64 (k : Int)] w (ShopOwn w p (F.eraseIdx k)) := by
  obtain ⟨i0, hi, hz0, hz1, hz2⟩ := info_parts info2F
  have HE := Lib.hid (errK_ok (k := (k : Int)) he (by rw [hn]; omega))
  have Hn := Lib.hid hn
  have Held := Lib.hid (fun w' (h : Bel (w.alloc (.cells #[.int .i64 p, .slice A n c] 24)) w') => pair_box h)
  have hki : (k : Int) < (n : Int) := by omega
  have hni : (n : Int) ≤ 900 := by omega
  clear hn he
  go_enter Try.func74, Try.ntmps74
  go_wp2_with fail
  refine (validateFeud_any p A n c F k _ (hR.bel (by (repeat (first | exact Bel.refl _ | assumption | refine Bel.drew ?_ | refine Bel.drewN ?_ _ | refine Bel.alloc ?_ _ | refine Bel.setCell ?_ (by first | omega | (simp; done) | (simp; omega) | (simp at *; omega)) _ | refine Bel.trans ?_ (by assumption))))) Hn.out h60).mono ?_
  rintro e w1 ⟨rfl, hb1⟩
  rw [HE.out]
  have hb01 : Bel (w.alloc (.cells #[.int .i64 p, .slice A n c] 24)) w1 := ((Bel.refl _).alloc _).trans hb1
  obtain ⟨b0, b1⟩ := Held.out _ hb01
  have hsz1 : w.heap.size < w1.heap.size := by have := hb1.size; simp at this; omega
  have hsz2 : w.heap.size + 1 < w1.heap.size := by have := hb1.size; simp at this; omega
  have hres := Lib.hid (fun w' (h : Bel w1 w') => show (w'.cell? ⟨w.heap.size + 1, 0, none⟩ = some (.int .i64 0) ∧ w'.cell? ⟨w.heap.size + 1, 1, none⟩ = some (.slice none 0 0)) ∧ ∀ o, w'.frozen? ⟨w.heap.size + 1, o, none⟩ = false from by
    have h2 := hb1.trans h
    refine ⟨⟨?_, ?_⟩, fun o => ?_⟩
    · rw [h2.use.1 _ _ (by simp)]; go_simp
    · rw [h2.use.1 _ _ (by simp)]; go_simp
    · rw [h2.use.2.1 _ _ (by simp)]; go_simp)
  have hO0 : Outs w1 (w1.alloc (.cells #[.int .i64 p, .slice none 0 0] 24)) w1.heap.size p (drTo F k 0) := by
    rw [drTo_zero]
    exact ⟨(Bel.refl w1).alloc _, ⟨.slice none 0 0, by go_simp, Own2.nil _ _ _⟩, by go_simp, fun o => by go_simp, by simp, Nat.le_refl _⟩
  go_wp2
  go_loopw [23] (fun i wr => ∃ q : Nat, q ≤ n ∧ i = .int .i64 q ∧ Outs w1 wr w1.heap.size p (drTo F k q)) (fun i _ => n - (intOf i).toNat)
  case atStart => exact ⟨0, Nat.zero_le _, rfl, hO0⟩
  case round =>
    clear hO0
    obtain ⟨q, hq, rfl, hO⟩ := hrel
    have hbw : Bel w wr := ((Bel.refl w).alloc _).trans (hb01.trans hO.bel)
    by_cases hlt : q < n
    · have hqn : (q : Int) < (n : Int) := by omega
      obtain ⟨b, o, x, y, rfl, hbl, hg, hc1, hc2⟩ := (hR.bel hbw).at_ (k := q) (by rw [Hn.out]; exact hlt)
      by_cases hqk : q = k
      · have HQ := Lib.hid (show drTo F k (q + 1) = drTo F k q by rw [hqk]; exact drTo_skip (by rw [Hn.out]; omega))
        have hqk2 : ((q : Int) == (k : Int)) = true := by simpa using (show (q : Int) = (k : Int) by omega)
        have hqk3 : (q == k) = true := by simpa using hqk
        clear hg hqk
        go_wp2
        go_roundw
        case rel => exact ⟨q + 1, by omega, by go_num, by rw [HQ.out]; exact hO.beL (by (repeat (first | exact Bel.refl _ | assumption | refine Bel.drew ?_ | refine Bel.drewN ?_ _ | refine Bel.alloc ?_ _ | refine Bel.setCell ?_ (by first | omega | (simp; done) | (simp; omega) | (simp at *; omega)) _ | refine Bel.trans ?_ (by assumption))))⟩
        case measure => simp [intOf]; omega
      · have HQ := Lib.hid (drTo_next hg hqk)
        have hqk2 : ((q : Int) == (k : Int)) = false := by simpa using (fun e : (q : Int) = (k : Int) => hqk (by omega))
        have hqk3 : (q == k) = false := by simpa using hqk
        obtain ⟨v, hv, hOv⟩ := hO.own
        have HO := Lib.hid hO
        have hwl := drTo_len F k q
        obtain ⟨X, hX⟩ : ∃ X, X = drTo F k q := ⟨_, rfl⟩
        rw [← hX] at hOv hwl HO
        have HX := Lib.hid hX
        have hX1 := Lib.hid (show X.length + 1 ≤ maxLen by unfold maxLen; omega)
        have hX2 := Lib.hid (show (X.length + 1) * 16 ≤ 140737488355328 by omega)
        have hltw : w1.heap.size < wr.heap.size := hO.lt
        have hfz := hO.fz 1
        have hb0 : Bel wr (wr.alloc (.cells #[.int .i64 x, .int .i64 y] 45)) := (Bel.refl wr).alloc _
        have HOv := Lib.hid (hOv.bel hb0)
        clear hg hqk hX hOv hO
        go_wp2_with (at_builtin; go_loud (refine wpList_append_lies _ rfl (.tmp 32) (.tmp 34) 22 rfl (w1.heap.size + 1) 45 i0 _ 2 16 Try.underlying22 hi hz0 hz1 hz2 rfl (by decide) v X.length (cel2 X) (by rfl) (HOv.out.alloc _) ⟨wr.heap.size + 1, 0, none⟩ 1 1 [.int .i64 x, .int .i64 y] (by rfl) rfl (newF _ _ _ _ _ (by simp)) (one2 _ _) (by omega) hX1.out hX2.out (by simp; omega) _ rfl ?_); intro g3 cap3 w3 hown3 hgr3 hat3 hlt3; obtain ⟨hk1, hk2, hk3⟩ := out_kept HO.out hv (hb0.alloc _) hgr3)
        have HO3 := Lib.hid (HO.out.put hv (hb0.alloc _) hgr3 hown3)
        clear hown3 hgr3 hat3 hlt3
        go_roundw
        case rel => exact ⟨q + 1, by omega, by go_num, by rw [HQ.out, ← HX.out]; exact HO3.out⟩
        case measure => simp [intOf]; omega
    · obtain rfl : q = n := by omega
      have e9 : drTo F k q = F.eraseIdx k := by unfold drTo; rw [List.take_of_length_le (by rw [Hn.out]; omega)]
      rw [e9] at hO
      obtain ⟨v, hv, hOv⟩ := hO.own
      obtain ⟨A9, n9, c9, rfl, hn9⟩ := hOv.form
      have HP := Lib.hid hOv
      have HN9 := Lib.hid hn9
      obtain ⟨⟨r0, r1⟩, rf⟩ := hres.out _ hO.bel
      have rf0 := rf 0
      have rf1 := rf 1
      have c0 := hO.c0
      have hltw : w1.heap.size < wr.heap.size := hO.lt
      have hw1 := hO.bel
      have HR0 := Lib.hid r0; have HR1 := Lib.hid r1
      clear hn9 e9 hO hOv rf
      go_wp2
      obtain ⟨q0, q1⟩ := stored2 (x := .int .i64 p) (y := .slice A9 n9 c9) HR0.out HR1.out
      refine bodyPost_ret (v := .tuple #[.agg #[.int .i64 p, .slice A9 n9 c9], .int .i64 0]) (by simp [results, Try.results74, go_sem, q0, q1]) rfl ⟨w1.heap.size + 1, A9, n9, c9, rfl, by omega, HN9.out, by (repeat (first | exact Bel.refl _ | assumption | refine Bel.drew ?_ | refine Bel.drewN ?_ _ | refine Bel.alloc ?_ _ | refine Bel.setCell ?_ (by first | omega | (simp; done) | (simp; omega) | (simp at *; omega)) _ | refine Bel.trans ?_ (by assumption))), (HP.out.far (by simp; omega) _).far (by simp; omega) _⟩
/-- A shop and an error. -/
def ShopAny (w : World) (p : Int) (l : List (Int × Int)) (x : Int) (e : Ending) (w' : World) : Prop := ∃ A n c, e = .returned (.tuple #[.agg #[.int .i64 p, .slice A n c], .int .i64 x]) ∧ n = l.length ∧ Bel w w' ∧ Prs w' A l ∧ ∀ b o, A = some ⟨b, o, none⟩ → w.heap.size ≤ b ∧ b < w'.heap.size
theorem ShopErr.any {w w' : World} {x : Int} {e : Ending} (h : ShopErr w x e w') : ShopAny w 0 [] x e w' := by
  obtain ⟨h1, h2⟩ := h
  exact ⟨none, 0, 0, h1, rfl, h2, .inl rfl, fun b o e => by cases e⟩
theorem ShopRes.any {w w' : World} {p : Int} {l : List (Int × Int)} {e : Ending} (h : ShopRes w p l e w') : ShopAny w p l 0 e w' := h
theorem errK_cases {p : Int} {F : List (Int × Int)} {k : Int} (h : errK p F k = 0) : errF p F = 0 ∧ 0 ≤ k ∧ k < (F.length : Int) := by
  unfold errK at h
  split at h
  · rename_i h0
    split at h
    · rename_i h1; exact ⟨h0, h1⟩
    · exact absurd h (by decide)
  · rename_i h0; exact absurd h h0
/-- Drop by both: one shop and one error. -/
theorem drop_both (p : Int) (n : Nat) (F : List (Int × Int)) (k : Int) (hn : F.length = n) (h60 : n ≤ 900) :
    ∃ q l, l.length ≤ n ∧ ∀ (w : World) (A : Option Addr) (c : Nat), Prs w A F →
      Calls Try.prog 74 #[.agg #[.int .i64 p, .slice A n c], .int .i64 k] w (ShopAny w q l (errK p F k)) ∧
      Calls Try.prog 72 #[.agg #[.int .i64 p, .slice A n c], .int .i64 k] w (ShopAny w q l (errK p F k)) := by
  by_cases he : errK p F k = 0
  · obtain ⟨h0, h1, h2⟩ := errK_cases he
    obtain ⟨m, rfl⟩ : ∃ m : Nat, k = m := ⟨k.toNat, by omega⟩
    refine ⟨p, F.eraseIdx m, by have := List.length_eraseIdx_le (l := F) (i := m); omega, fun w A c hR => ?_⟩
    rw [he]
    exact ⟨drop_ok p A n c F m w hR hn h60 h0 (by omega), rDrop_ok p A n c F m w hR hn h60 h0 (by omega)⟩
  · exact ⟨0, [], by simp, fun w A c hR => ⟨(drop_err p A n c F k w hR hn h60 he).mono fun _ _ h => h.any, (rDrop_err p A n c F k w hR hn h60 he).mono fun _ _ h => h.any⟩⟩
/-- Merge by both: one shop and one error. -/
theorem merge_both (p : Int) (n : Nat) (F : List (Int × Int)) (k : Int) (hn : F.length = n) (h60 : n ≤ 900) :
    ∃ q l, l.length ≤ 900 ∧ ∀ (w : World) (A : Option Addr) (c : Nat), Prs w A F →
      Calls Try.prog 75 #[.agg #[.int .i64 p, .slice A n c], .int .i64 k] w (ShopAny w q l (errK p F k)) ∧
      Calls Try.prog 73 #[.agg #[.int .i64 p, .slice A n c], .int .i64 k] w (ShopAny w q l (errK p F k)) := by
  by_cases he : errK p F k = 0
  · obtain ⟨h0, h1, h2⟩ := errK_cases he
    obtain ⟨m, rfl⟩ : ∃ m : Nat, k = m := ⟨k.toNat, by omega⟩
    obtain ⟨q, G, rfl, rfl, hS⟩ := shop_of h0
    rw [up_length] at hn h2
    have hm : m < G.length := by omega
    have hf : G[m]? = some G[m] := List.getElem?_eq_getElem hm
    refine ⟨(q : Int) - 1, up (wrTo (G.map (mgF G[m])) true (q - 1) (q - 1)), ?_, fun w A c hR => ?_⟩
    rotate_left
    · rw [he]
      exact ⟨merge_ok q A n c G m _ w hR hn h60 hS (by omega) hf, rMerge_ok q A n c G m _ w hR hn h60 hS (by omega) hf⟩
    · have h3 := wrTo_len (G.map (mgF G[m])) true (q - 1) (q - 1)
      have h4 : (q - 1) * (q - 1) ≤ 7 * 7 := Nat.mul_le_mul (by have := hS.p7; omega) (by have := hS.p7; omega)
      rw [up_length]
      omega
  · exact ⟨0, [], by simp, fun w A c hR => ⟨(merge_err p A n c F k w hR hn h60 he).mono fun _ _ h => h.any, (rMerge_err p A n c F k w hR hn h60 he).mono fun _ _ h => h.any⟩⟩
end Go.Proofs.Ytcndmfkbfimllaa
