/- The moves that are found: movesTo's walk. -/
import Derived.Test.YtmbhhooiaonhjaaMK
import Derived.Test.YtmbhhooiaonhjaaMD
import Derived.Deep.AppendLies
import Derived.Deep.RegionLaw
namespace Go.Proofs.Ytmbhhooiaonhjaa
open Go.RowKit

/-- The slice v is the call's own, from block 'base' on, and holds the moves l. -/
def Own3 (e : TypeId) (base : Nat) (w : World) (v : Value) (l : List (Int × Int × Int)) : Prop := w.ownsRow base e 3 v l.length (cel3 l)
section
variable {e base : Nat} {w w' : World} {v : Value} {l : List (Int × Int × Int)}
theorem Own3.nil (e base : Nat) (w : World) : Own3 e base w (.slice none 0 0) [] := World.ownsRow_nil _ _ _ _
theorem Own3.alloc (h : Own3 e base w v l) (o : Obj) : Own3 e base (w.alloc o) v l := World.ownsRow.alloc h o
theorem Own3.bel (h : Own3 e base w v l) (hb : Bel w w') : Own3 e base w' v l :=
  World.ownsRow.kept (row := none) h ⟨hb.os, hb.tape, hb.output, hb.size, fun k hk _ => hb.block k hk⟩ (by
    cases hv : v.ownBlock with
    | none => exact .inl rfl
    | some k => exact .inr (by simp))
theorem Own3.far (h : Own3 e base w v l) {b : Nat} (hb : b < base) (o : Nat) (u : Value) : Own3 e base (w.setCell ⟨b, o, none⟩ u) v l :=
  World.ownsRow.kept (row := some b) h ⟨rfl, rfl, rfl, by simp [World.setCell], fun k _ hne => Below.heap_setCell _ _ _ _ (fun e => hne (by rw [e]))⟩ (by
    cases hv : v.ownBlock with
    | none => exact .inl rfl
    | some k =>
      refine .inr fun e => ?_
      injection e with e
      have := (World.ownsRow.lt h k hv).1
      omega)
theorem Own3.snoc {a b c : Int} (h : w'.ownsRow base e 3 v (l.length + 1) (cel3 l ++ [.int .i64 a, .int .i64 b, .int .i64 c])) : Own3 e base w' v (l ++ [(a, b, c)]) := by
  unfold Own3
  have e1 : (l ++ [(a, b, c)]).length = l.length + 1 := by simp
  have e2 : cel3 (l ++ [(a, b, c)]) = cel3 l ++ [.int .i64 a, .int .i64 b, .int .i64 c] := by simp [cel3]
  rw [e1, e2]
  exact h
theorem Own3.form (h : Own3 e base w v l) : ∃ A n c, v = .slice A n c ∧ n = l.length ∧ Trs w A l := by
  obtain ⟨A, n, c, rfl, hn⟩ := own_form h
  exact ⟨A, n, c, rfl, hn, trs_of_own h⟩
end
theorem new3 (w : World) (a b c : Int) (ty : TypeId) (g : Nat) (hg : g = w.heap.size) : ∀ j u, [Value.int .i64 a, .int .i64 b, .int .i64 c][j]? = some u → (w.alloc (.cells #[.int .i64 a, .int .i64 b, .int .i64 c] ty)).cell? ((⟨g, 0, none⟩ : Addr).add j) = some u := by
  subst hg
  intro j u hj
  rw [Go.Addr.add_mid]
  match j, hj with
  | 0, hj => simpa using hj
  | 1, hj => simpa using hj
  | 2, hj => simpa using hj
theorem one3 (a b c : Int) : ∀ u ∈ [Value.int .i64 a, .int .i64 b, .int .i64 c], u.oneCell' = true := by
  intro u hu
  simp at hu
  rcases hu with rfl | rfl | rfl <;> rfl
theorem Tail.grown {w w' : World} {g o : Nat} {l : List (Int × Int)} (h : Tail w g o l) {row : Option Nat} (hg : w.grownBy w' row) (hne : row ≠ some g) : Tail w' g o l := h.of_block hg.size (hg.block g h.lt (fun e => hne e.symm))
/-- Moves are returned that are accepted. -/
def Found (w : World) (gs hs : List (Int × Int)) (e : Ending) (w' : World) : Prop :=
  ∃ A n c P, e = .returned (.slice A n c) ∧ n = P.length ∧ n ≤ 12 ∧ Bel w w' ∧ Trs w' A P ∧ checkE gs hs P = 0
def lenV : Value → Nat
  | .slice _ n _ => n
  | _ => 0
theorem cons_of {l : List (Int × Int)} (h : l.length ≠ 0) : ∃ s m r, l = (s, m) :: r := by
  cases l with
  | nil => exact absurd rfl h
  | cons g r => exact ⟨g.1, g.2, r, rfl⟩

/-- What an append to the moves leaves of the rest. -/
theorem after_app {w wr w3 : World} {e base g1 g2 o1 o2 k : Nat} {v : Value} {o : Obj} {T F : List (Int × Int)} {P : List (Int × Int × Int)} (hb : Bel w wr) (h0 : w.heap.size ≤ base) (hO : Own3 e base wr v P) (hsz : base ≤ wr.heap.size)
    (hg : ((wr.drewN k).alloc o).grownBy w3 v.ownBlock) (hT : Tail wr g1 o1 T) (hF : Tail wr g2 o2 F) (h1 : g1 < base) (h2 : g2 < base) : Bel w w3 ∧ Tail w3 g1 o1 T ∧ Tail w3 g2 o2 F ∧ base ≤ w3.heap.size := by
  have hr : ∀ i, v.ownBlock = some i → base ≤ i := fun i hi => (World.ownsRow.lt hO i hi).1
  have hbd : Bel w ((wr.drewN k).alloc o) := (hb.drewN k).alloc o
  refine ⟨Below.grown hbd hg hbd.size (fun i hi => Nat.le_trans h0 (hr i hi)), Tail.grown (hT.bel (((Bel.refl wr).drewN k).alloc o)) hg (fun e => by have := hr _ e; omega), Tail.grown (hF.bel (((Bel.refl wr).drewN k).alloc o)) hg (fun e => by have := hr _ e; omega), ?_⟩
  have := hg.size
  simp at this
  omega
theorem after_wo {w w3 w4 : World} {e base g o : Nat} {v y : Value} {P : List (Int × Int × Int)} (hw : w4 = w3.setCell ⟨g, o, none⟩ y) (hB : Bel w w3) (hO : Own3 e base w3 v P) (hs : base ≤ w3.heap.size) (h0 : w.heap.size ≤ g) (h1 : g < base) :
    Bel w w4 ∧ Own3 e base w4 v P ∧ base ≤ w4.heap.size := by
  subst hw
  exact ⟨hB.setCell h0 y, hO.far h1 o y, by simpa [World.setCell] using hs⟩
theorem Tail.of_eq {w w' : World} {g o b c : Nat} {y : Value} {l : List (Int × Int)} (h : Tail w g o l) (hw : w' = w.setCell ⟨b, c, none⟩ y) (hne : g ≠ b) : Tail w' g o l := by
  subst hw
  exact h.far hne y
theorem wo_less {s a u b x : Int} {T F : List (Int × Int)} (hx : x = min a b) : (wo x ((s, a) :: T)).length + (wo x ((u, b) :: F)).length < T.length + 1 + (F.length + 1) := by
  rw [length_wo, length_wo]
  split <;> split <;> omega
set_option maxRecDepth 100000 in
set_option maxHeartbeats 2000000 in
theorem movesTo_any (A B : Option Addr) (n c m d : Nat) (gs hs : List (Int × Int)) (w : World) (hR : Prs w A gs) (hS : Prs w B hs) (hn : gs.length = n) (hm : hs.length = m) (he : errF gs hs = 0) (hf : finB gs hs = true) :
    Calls Try.prog 49 #[.slice A n c, .slice B m d] w (Found w gs hs) := by
  obtain ⟨e1, e2, e3⟩ := errF_zero he
  have l1 := (errV_zero e1).1
  have l2 := (errV_zero e2).1
  have HI := Lib.hid (Inv.start e1 e2 e3 hf)
  have HE := Lib.hid he
  have Hn := Lib.hid hn; have Hm := Lib.hid hm
  obtain ⟨i0, hi, hz0, hz1, hz2⟩ := info_parts info3M
  rw [hn] at l1
  rw [hm] at l2
  clear e1 e2 e3 he hf hn hm
  go_enter Try.func49, Try.ntmps49
  go_wp2_with fail
  refine (copyLot_any A n c gs _ hR Hn.out (by omega)).mono ?_
  rintro e w1 ⟨g1, rfl, hg1, hb1, hr1⟩
  go_wp2_with fail
  refine (copyLot_any B m d hs _ (hS.bel hb1) Hm.out (by omega)).mono ?_
  rintro e w2 ⟨g2, rfl, hg2, hb2, hr2⟩
  have ht1 := (hr1.tail Hn.out).bel hb2
  have ht2 := hr2.tail Hm.out
  have hne : g1 ≠ g2 := by have := hr1.lt; omega
  have hb02 := hb1.trans hb2
  have hgg1 := ht1.lt
  have hgg2 := ht2.lt
  have hw1 : w.heap.size ≤ g2 := by have := hb1.size; omega
  have hwg1 : w.heap.size ≤ g1 := hg1
  have hw12 : w.heap.size ≤ w2.heap.size := hb02.size
  clear hr1 hr2 hb1 hb2 hg2
  go_wp2_with fail
  go_loopw [5, 6, 7, 8] (fun u v mv _ wr => ∃ (T F : List (Int × Int)) (P : List (Int × Int × Int)) (p q o1 o2 : Nat), u = .slice (some ⟨g1, o1, none⟩) p p ∧ v = .slice (some ⟨g2, o2, none⟩) q q ∧ T.length = p ∧ F.length = q ∧ Inv gs hs T F P ∧ Tail wr g1 o1 T ∧ Tail wr g2 o2 F ∧ Own3 70 w2.heap.size wr mv P ∧ Bel w wr ∧ w2.heap.size ≤ wr.heap.size) (fun u v _ _ _ => lenV u + lenV v)
  case atStart => exact ⟨gs, hs, [], n, m, 0, 0, rfl, rfl, Hn.out, Hm.out, HI.out, ht1, ht2, Own3.nil _ _ _, hb02, Nat.le_refl _⟩
  case round =>
    clear ht1 ht2 hb02
    obtain ⟨T, F, P, p, q, o1, o2, rfl, rfl, hp, hq, hI, hT, hF, hO, hb, hsz⟩ := hrel
    by_cases hp0 : p = 0
    · have hC := hI.done (.inl (List.eq_nil_of_length_eq_zero (by omega))) HE.out
      have hlen := hI.len
      rw [Hn.out, Hm.out] at hlen
      obtain ⟨A', n', c', rfl, hn', htr⟩ := hO.form
      have HN := Lib.hid hn'
      have h12 : n' ≤ 12 := by omega
      clear hn' hlen hO hI
      subst hp0
      go_wp2
      go_ret
      exact ⟨_, _, _, P, rfl, HN.out, h12, hb, htr, hC⟩
    · by_cases hq0 : q = 0
      · have hC := hI.done (.inr (List.eq_nil_of_length_eq_zero (by omega))) HE.out
        have hlen := hI.len
        rw [Hn.out, Hm.out] at hlen
        obtain ⟨A', n', c', rfl, hn', htr⟩ := hO.form
        have HN := Lib.hid hn'
        have h12 : n' ≤ 12 := by omega
        have hp1 : 0 < p := by omega
        clear hn' hlen hO hI
        subst hq0
        go_wp2
        go_ret
        exact ⟨_, _, _, P, rfl, HN.out, h12, hb, htr, hC⟩
      · have hp1 : 0 < p := by omega
        have hq1 : 0 < q := by omega
        obtain ⟨s, a, T', rfl⟩ := cons_of (by omega : T.length ≠ 0)
        obtain ⟨u, b, F', rfl⟩ := cons_of (by omega : F.length ≠ 0)
        have hlen := hI.len
        rw [Hn.out, Hm.out] at hlen
        simp only [List.length_cons] at hlen hp hq
        have hsu := hI.first
        have hbt := (scan_cons.1 hI.t).1
        have hbf := (scan_cons.1 hI.f).1
        obtain ⟨x, hx⟩ : ∃ x, x = min a b := ⟨_, rfl⟩
        have HST := Lib.hid (hI.step hx)
        have HLS := Lib.hid (wo_less (s := s) (u := u) (T := T') (F := F') hx)
        have HP1 := Lib.hid hp.symm; have HQ1 := Lib.hid hq.symm
        have HT := Lib.hid hT; have HF := Lib.hid hF
        have h12p : p ≤ 12 := by omega
        have h12q : q ≤ 12 := by omega
        have h12P : P.length ≤ 12 := by omega
        obtain ⟨t0, t1⟩ := hT.head
        obtain ⟨f0, f1⟩ := hF.head
        have hlt1 := hT.lt
        have hlt2 := hF.lt
        clear hI hT hF hp hq hlen
        by_cases hab : a ≤ b
        · obtain rfl : x = a := by omega
          clear hx
          by_cases hlt : s < u
          · have hI2 := HST.out
            rw [if_pos hlt] at hI2
            have HI2 := Lib.hid hI2
            clear hI2 HST
            (go_wp2; go_region; go_wp2; go_quiet (fail); go_wp2; have hX1 := Lib.hid (show P.length + 1 ≤ maxLen by unfold maxLen; omega); have hX2 := Lib.hid (show (P.length + 1) * 24 ≤ 140737488355328 by omega); go_region_law (refine step_append_lies _ rfl (.tmp 39) (.tmp 50) 32 rfl w2.heap.size 70 i0 _ 3 24 Try.underlying32 hi hz0 hz1 hz2 rfl (by decide) u7 P.length (cel3 P) (by rfl) ((hO.bel ((Bel.refl wr).drewN _)).alloc _) ⟨wr.heap.size, 0, none⟩ 1 1 [.int .i64 u, .int .i64 s, .int .i64 x] (by rfl) rfl (new3 (wr.drewN _) _ _ _ _ _ rfl) (one3 _ _ _) (by omega) hX1.out hX2.out (Nat.le_trans hsz (by simp)) _ rfl ?_; intro g3 cap3 w3 hown3 hgr3 _ hlt3))
            all_goals
              (obtain ⟨hB3, hT3, hF3, hs3⟩ := after_app hb hw12 hO hsz hgr3 HT.out HF.out hgg1 hgg2; have hO3 := Own3.snoc hown3; clear hown3 hgr3 hlt3 hX1 hX2 hb hO hsz t0 t1 f0 f1 HT HF hlt1 hlt2)
              (go_wp2_with fail; refine (without_any g1 o1 p _ _ x T' _ hT3 HP1.out (by omega) (by omega) (by omega) (by omega)).mono ?_; rintro e w4 ⟨o1', k1, rfl, hk1, hw4, hT4⟩; obtain ⟨hB4, hO4, hs4⟩ := after_wo hw4 hB3 hO3 hs3 hwg1 hgg1; have hF4 := hF3.of_eq hw4 (Ne.symm hne); have HK1 := Lib.hid hk1; clear hk1 hw4 hT3 hF3 hO3 hB3 hs3; go_wp2_with fail; refine (without_any g2 o2 q _ _ x F' _ hF4 HQ1.out (by omega) (by omega) (by omega) (by omega)).mono ?_; rintro e w5 ⟨o2', k2, rfl, hk2, hw5, hF5⟩; obtain ⟨hB5, hO5, hs5⟩ := after_wo hw5 hB4 hO4 hs4 hw1 hgg2; have hT5 := hT4.of_eq hw5 hne; have HK2 := Lib.hid hk2; clear hk2 hw5 hT4 hF4 hO4 hB4 hs4; go_wp2_with fail; go_roundw)
              case rel => exact ⟨_, _, _, k1, k2, o1', o2', rfl, rfl, HK1.out.symm, HK2.out.symm, HI2.out, hT5, hF5, hO5, hB5, hs5⟩
              case measure => (have h1 := HLS.out; have h2 := HK1.out; have h3 := HK2.out; have h4 := HP1.out; have h5 := HQ1.out; simp only [lenV]; omega)
          · obtain rfl : s = u := by omega
            have hI2 := HST.out
            rw [if_neg hlt] at hI2
            have HI2 := Lib.hid hI2
            clear hI2 HST hlt hsu
            go_wp2
            go_region
            all_goals
              go_wp2
              go_quiet (fail)
              clear t0 t1 f0 f1
              (go_wp2_with fail; refine (without_any g1 o1 p _ _ x T' _ (HT.out.bel ((Bel.refl wr).drewN _)) HP1.out (by omega) (by omega) (by omega) (by omega)).mono ?_; rintro e w4 ⟨o1', k1, rfl, hk1, hw4, hT4⟩; obtain ⟨hB4, hO4, hs4⟩ := after_wo hw4 (hb.drewN _) (hO.bel ((Bel.refl wr).drewN _)) (by simpa using hsz) hwg1 hgg1; have hF4 := (HF.out.bel ((Bel.refl wr).drewN _)).of_eq hw4 (Ne.symm hne); have HK1 := Lib.hid hk1; clear hk1 hw4 HT HF hO hb hsz; go_wp2_with fail; refine (without_any g2 o2 q _ _ x F' _ hF4 HQ1.out (by omega) (by omega) (by omega) (by omega)).mono ?_; rintro e w5 ⟨o2', k2, rfl, hk2, hw5, hF5⟩; obtain ⟨hB5, hO5, hs5⟩ := after_wo hw5 hB4 hO4 hs4 hw1 hgg2; have hT5 := hT4.of_eq hw5 hne; have HK2 := Lib.hid hk2; clear hk2 hw5 hT4 hF4 hO4 hB4 hs4; go_wp2_with fail; go_roundw)
              case rel => exact ⟨_, _, _, k1, k2, o1', o2', rfl, rfl, HK1.out.symm, HK2.out.symm, HI2.out, hT5, hF5, hO5, hB5, hs5⟩
              case measure => (have h1 := HLS.out; have h2 := HK1.out; have h3 := HK2.out; have h4 := HP1.out; have h5 := HQ1.out; simp only [lenV]; omega)
        · obtain rfl : x = b := by omega
          have hba : x < a := by omega
          clear hx hab
          by_cases hlt : s < u
          · have hI2 := HST.out
            rw [if_pos hlt] at hI2
            have HI2 := Lib.hid hI2
            clear hI2 HST
            (go_wp2; go_region; go_wp2; go_quiet (fail); go_wp2; have hX1 := Lib.hid (show P.length + 1 ≤ maxLen by unfold maxLen; omega); have hX2 := Lib.hid (show (P.length + 1) * 24 ≤ 140737488355328 by omega); go_region_law (refine step_append_lies _ rfl (.tmp 39) (.tmp 50) 32 rfl w2.heap.size 70 i0 _ 3 24 Try.underlying32 hi hz0 hz1 hz2 rfl (by decide) u7 P.length (cel3 P) (by rfl) ((hO.bel ((Bel.refl wr).drewN _)).alloc _) ⟨wr.heap.size, 0, none⟩ 1 1 [.int .i64 u, .int .i64 s, .int .i64 x] (by rfl) rfl (new3 (wr.drewN _) _ _ _ _ _ rfl) (one3 _ _ _) (by omega) hX1.out hX2.out (Nat.le_trans hsz (by simp)) _ rfl ?_; intro g3 cap3 w3 hown3 hgr3 _ hlt3))
            all_goals
              (obtain ⟨hB3, hT3, hF3, hs3⟩ := after_app hb hw12 hO hsz hgr3 HT.out HF.out hgg1 hgg2; have hO3 := Own3.snoc hown3; clear hown3 hgr3 hlt3 hX1 hX2 hb hO hsz t0 t1 f0 f1 HT HF hlt1 hlt2)
              (go_wp2_with fail; refine (without_any g1 o1 p _ _ x T' _ hT3 HP1.out (by omega) (by omega) (by omega) (by omega)).mono ?_; rintro e w4 ⟨o1', k1, rfl, hk1, hw4, hT4⟩; obtain ⟨hB4, hO4, hs4⟩ := after_wo hw4 hB3 hO3 hs3 hwg1 hgg1; have hF4 := hF3.of_eq hw4 (Ne.symm hne); have HK1 := Lib.hid hk1; clear hk1 hw4 hT3 hF3 hO3 hB3 hs3; go_wp2_with fail; refine (without_any g2 o2 q _ _ x F' _ hF4 HQ1.out (by omega) (by omega) (by omega) (by omega)).mono ?_; rintro e w5 ⟨o2', k2, rfl, hk2, hw5, hF5⟩; obtain ⟨hB5, hO5, hs5⟩ := after_wo hw5 hB4 hO4 hs4 hw1 hgg2; have hT5 := hT4.of_eq hw5 hne; have HK2 := Lib.hid hk2; clear hk2 hw5 hT4 hF4 hO4 hB4 hs4; go_wp2_with fail; go_roundw)
              case rel => exact ⟨_, _, _, k1, k2, o1', o2', rfl, rfl, HK1.out.symm, HK2.out.symm, HI2.out, hT5, hF5, hO5, hB5, hs5⟩
              case measure => (have h1 := HLS.out; have h2 := HK1.out; have h3 := HK2.out; have h4 := HP1.out; have h5 := HQ1.out; simp only [lenV]; omega)
          · obtain rfl : s = u := by omega
            have hI2 := HST.out
            rw [if_neg hlt] at hI2
            have HI2 := Lib.hid hI2
            clear hI2 HST hlt hsu
            go_wp2
            go_region
            all_goals
              go_wp2
              go_quiet (fail)
              clear t0 t1 f0 f1
              (go_wp2_with fail; refine (without_any g1 o1 p _ _ x T' _ (HT.out.bel ((Bel.refl wr).drewN _)) HP1.out (by omega) (by omega) (by omega) (by omega)).mono ?_; rintro e w4 ⟨o1', k1, rfl, hk1, hw4, hT4⟩; obtain ⟨hB4, hO4, hs4⟩ := after_wo hw4 (hb.drewN _) (hO.bel ((Bel.refl wr).drewN _)) (by simpa using hsz) hwg1 hgg1; have hF4 := (HF.out.bel ((Bel.refl wr).drewN _)).of_eq hw4 (Ne.symm hne); have HK1 := Lib.hid hk1; clear hk1 hw4 HT HF hO hb hsz; go_wp2_with fail; refine (without_any g2 o2 q _ _ x F' _ hF4 HQ1.out (by omega) (by omega) (by omega) (by omega)).mono ?_; rintro e w5 ⟨o2', k2, rfl, hk2, hw5, hF5⟩; obtain ⟨hB5, hO5, hs5⟩ := after_wo hw5 hB4 hO4 hs4 hw1 hgg2; have hT5 := hT4.of_eq hw5 hne; have HK2 := Lib.hid hk2; clear hk2 hw5 hT4 hF4 hO4 hB4 hs4; go_wp2_with fail; go_roundw)
              case rel => exact ⟨_, _, _, k1, k2, o1', o2', rfl, rfl, HK1.out.symm, HK2.out.symm, HI2.out, hT5, hF5, hO5, hB5, hs5⟩
              case measure => (have h1 := HLS.out; have h2 := HK1.out; have h3 := HK2.out; have h4 := HP1.out; have h5 := HQ1.out; simp only [lenV]; omega)
end Go.Proofs.Ytmbhhooiaonhjaa

