/- validateStrips and Switch of the program. -/
import Derived.Test.YtahkihifgafbnaaYL
namespace Go.Proofs.Ytahkihifgafbnaa
open Go.RowKit

/-- The errors of strips. -/
def errN (T : List (List Int)) (l : List Int) : Int := if errT T = 0 then (if ∀ x ∈ l, 0 ≤ x ∧ x < (T.length : Int) then 0 else 4) else errT T
set_option maxRecDepth 100000 in
set_option maxHeartbeats 2000000 in
theorem validateStrips_any (lo : Nat) (A : Option Addr) (n c : Nat) (T : List (List Int)) (B : Option Addr) (q d : Nat) (l : List Int) (w : World) (hR : Tab lo w A T) (hn : T.length = n) (hnx : n ≤ maxLen) (hJ : Ints w B l) (hq : l.length = q) (hmax : q ≤ maxLen) :
    Calls Try.prog 96 #[.slice A n c, .slice B q d] w fun e w' => e = .returned (.int .i64 (errN T l)) ∧ Bel w w' := by
  have Hn := Lib.hid hn; have Hq := Lib.hid hq
  have h63 : (q : Int) ≤ 9223372036854775807 := by unfold maxLen at hmax; omega
  by_cases hz : errT T = 0
  · have HZ := Lib.hid hz
    have HOK : Hid ((∀ x ∈ l, 0 ≤ x ∧ x < (n : Int)) → errN T l = 0) := fun h => by unfold errN; rw [if_pos hz, hn, if_pos h]
    have HNO : Hid (¬ (∀ x ∈ l, 0 ≤ x ∧ x < (n : Int)) → errN T l = 4) := fun h => by unfold errN; rw [if_pos hz, hn, if_neg h]
    clear hn hq hz hmax
    go_enter Try.func96, Try.ntmps96
    go_wp2_with fail
    refine (validate_any lo A n c T _ hR Hn.out).mono ?_
    rintro e w1 ⟨rfl, hb1⟩
    rw [HZ.out]
    go_wp2
    go_loopw [7, 15] (fun _ i wr => ∃ k : Nat, k ≤ q ∧ i = .int .i64 k ∧ Bel w wr ∧ ∀ x ∈ l.take k, 0 ≤ x ∧ x < (n : Int)) (fun _ i _ => q - (intOf i).toNat)
    case atStart => exact ⟨0, Nat.zero_le _, rfl, hb1, fun x hx => by simp at hx⟩
    case round =>
      obtain ⟨k, hk, rfl, hb, hin⟩ := hrel
      have HI := Lib.hid hin
      clear hin
      by_cases hlt : k < q
      · obtain ⟨b, o, x, rfl, hbl, hg, hc1⟩ := (hJ.bel hb).at_ (k := k) (by rw [Hq.out]; exact hlt)
        have HG := Lib.hid hg
        have hki : (k : Int) < (q : Int) := by omega
        have hk0 : (0 : Int) ≤ (k : Int) := by omega
        clear hg
        cases hd : decide (0 ≤ x ∧ x < (n : Int))
        · have HN := Lib.hid (show errN T l = 4 from HNO.out fun h => (of_decide_eq_false hd) (h x (List.mem_of_getElem? HG.out)))
          go_wp2_with (first | (go_at_call 118; refine (thas_any A n c x _ hnx).mono ?_; rintro e w2 ⟨rfl, rfl⟩; rw [hd]))
          go_ret
          exact ⟨ret_int HN.out.symm, hb⟩
        · have HX := Lib.hid (of_decide_eq_true hd)
          go_wp2_with (first | (go_at_call 118; refine (thas_any A n c x _ hnx).mono ?_; rintro e w2 ⟨rfl, rfl⟩; rw [hd]))
          go_roundw
          case rel => exact ⟨k + 1, by omega, by go_num, hb, fun y hy => by
            rw [take_at HG.out] at hy
            rcases List.mem_append.1 hy with h | h
            · exact HI.out y h
            · simp at h
              subst h
              exact HX.out⟩
          case measure => simp [intOf]; omega
      · obtain rfl : q = k := by omega
        have HN := Lib.hid (show errN T l = 0 from HOK.out fun x hx => HI.out x (by rw [List.take_of_length_le (by rw [Hq.out]; omega)]; exact hx))
        go_wp2
        go_ret
        exact ⟨ret_int HN.out.symm, hb⟩
  · have HV := Lib.hid (show errT T = errN T l by unfold errN; rw [if_neg hz])
    have hz' : (errN T l != 0) = true := by rw [← HV.out]; simpa using hz
    clear hn hq hz hmax
    generalize hv : errN T l = v at *
    clear hv
    go_enter Try.func96, Try.ntmps96
    go_wp2_with fail
    refine (validate_any lo A n c T _ hR Hn.out).mono ?_
    rintro e w1 ⟨rfl, hb1⟩
    rw [HV.out]
    go_wp2
    go_ret
    exact ⟨rfl, hb1⟩
theorem ints2 (w : World) (a b : Int) : Ints (w.alloc (.cells #[.int .i64 a, .int .i64 b] 3)) (some ⟨w.heap.size, 0, none⟩) [a, b] := by
  refine .inr ⟨w.heap.size, 0, rfl, by simp, fun j v hj => ?_⟩
  rw [World.cell?_alloc_new, Nat.zero_add]
  match j, hj with
  | 0, hj => simpa using hj
  | 1, hj => simpa using hj
theorem errN_two {T : List (List Int)} {a b : Int} : errN T [a, b] = if errT T = 0 then (if (0 ≤ a ∧ a < (T.length : Int)) ∧ 0 ≤ b ∧ b < (T.length : Int) then 0 else 4) else errT T := by
  unfold errN
  simp
set_option maxRecDepth 100000 in
set_option maxHeartbeats 8000000 in
theorem switch_ok (lo : Nat) (A : Option Addr) (n c : Nat) (T : List (List Int)) (a b : Nat) (w : World) (hR : Tab lo w A T) (hn : T.length = n) (hE : errT T = 0) (ha : a < n) (hb : b < n) (hab : a ≠ b) :
    Calls Try.prog 71 #[.slice A n c, .int .i64 (a : Int), .int .i64 (b : Int)] w fun e w' => ∃ v base, e = .returned (.tuple #[v, .int .i64 0]) ∧ w.heap.size ≤ base ∧ Bel w w' ∧ SqG base w' v n n (fun x y => swF (ent T) a b x y) := by
  obtain ⟨i0, hi, hz0, hz1, hz2⟩ := info_parts info1S
  obtain ⟨⟨h1, h7⟩, hrw, -⟩ := errT_zero hE
  rw [hn] at h1 h7 hrw
  have hsq := rowsB_square hn hrw
  obtain ⟨g, o, rfl, hgl, hents⟩ := ents_at (hR.toN hsq h1) hsq
  have Ents : Hid (∀ w', Bel w w' → ∀ a b, a < n → b < n → ∃ b' o' c', w'.cell? ⟨g, o + a, none⟩ = some (.slice (some ⟨b', o', none⟩) n c') ∧ w'.cell? ⟨b', o' + b, none⟩ = some (.int .i64 (ent T a b))) := fun w' hw a b ha hb => by
    obtain ⟨b', o', c', hb', k1, k2⟩ := hents a b ha hb
    exact ⟨b', o', c', by rw [hw.use.1 _ _ hgl]; exact k1, by rw [hw.use.1 _ _ hb']; exact k2⟩
  have HV := Lib.hid (show errN T [(a : Int), (b : Int)] = 0 by rw [errN_two, if_pos hE, hn, if_pos ⟨⟨by omega, by omega⟩, by omega, by omega⟩])
  have HE := Lib.hid hE; have Hn := Lib.hid hn; have HSQ := Lib.hid hsq
  have hnx : n ≤ maxLen := by unfold maxLen; omega
  have hai : (a : Int) < (n : Int) := by omega
  have ha0 : (0 : Int) ≤ (a : Int) := by omega
  have hbi : (b : Int) < (n : Int) := by omega
  have hb0 : (0 : Int) ≤ (b : Int) := by omega
  have habi : ¬ (a : Int) = (b : Int) := by omega
  have habe : ((a : Int) == (b : Int)) = false := by simpa using habi
  clear hents hE hn hrw hsq
  go_enter Try.func71, Try.ntmps71
  go_wp2_with fail
  refine (validateStrips_any lo _ n c T (some ⟨w.heap.size, 0, none⟩) 2 2 [(a : Int), (b : Int)] _ (hR.bel ((Bel.refl w).alloc _)) Hn.out hnx (ints2 w _ _) rfl (by unfold maxLen; omega)).mono ?_
  rintro e w1 ⟨rfl, hb1'⟩
  rw [HV.out]
  have hb1 : Bel w w1 := ((Bel.refl w).alloc _).trans hb1'
  have hs1 := hb1.size
  clear hb1' habi
  go_wp2
  go_loopw [9, 11, 25] (fun v _ i wr => ∃ k : Nat, k ≤ n ∧ i = .int .i64 k ∧ Bel w1 wr ∧ SqG w1.heap.size wr v k n (ent T)) (fun _ _ i _ => n - (intOf i).toNat)
  case atStart => exact ⟨0, Nat.zero_le _, rfl, Bel.refl _, _, _, (Grid.nil _ _).congr (fun i h => by omega) (fun i j h => by omega)⟩
  case round =>
    obtain ⟨k, hk, rfl, hbr, bs, cs, hG⟩ := hrel
    by_cases hlt : k < n
    · obtain ⟨b2, o2, ns, A', m, c', hA, hbl, hg, hc1, hI, hl', hm'⟩ := (hR.bel (hb1.trans hbr)).at_ (k := k) (by rw [Hn.out]; exact hlt)
      injection hA with hA
      injection hA with e1 e2 e3
      subst e1 e2
      have hnl := HSQ.out.2 ns (List.mem_of_getElem? hg)
      obtain rfl : m = n := by omega
      have hki : (k : Int) < (m : Int) := by omega
      have hk0 : (0 : Int) ≤ (k : Int) := by omega
      have hbs := hbr.size
      have hX1 := Lib.hid (show k + 1 ≤ maxLen by unfold maxLen; omega)
      have hX2 := Lib.hid (show (k + 1) * 24 ≤ 140737488355328 by omega)
      have HE2 := Lib.hid (show ∀ j, ent T k j = ns.getD j 0 by unfold ent; rw [hg]; exact fun j => (List.getD_eq_getElem?_getD ..).symm)
      have HL := Lib.hid hl'; have HG := Lib.hid hG
      clear hg hl' hm' hnl hG
      go_wp2_with fail
      refine (clone_any A' m c' ns _ hI HL.out (by omega)).mono ?_
      rintro e w2 ⟨v2, rfl, hO2, hb2⟩
      unfold Own1 at hO2
      rw [HL.out] at hO2
      obtain ⟨g2, c2, rfl⟩ : ∃ g2 c2, v2 = .slice (some ⟨g2, 0, none⟩) m c2 := by
        rcases hO2.2 with ⟨_, h0⟩ | ⟨g2, cap, cur, rfl, _⟩
        · omega
        · exact ⟨g2, cap, rfl⟩
      obtain ⟨r1, r2, hR2⟩ := Row.of_own hO2
      have HR2 := Lib.hid hR2
      have HG2 := Lib.hid (HG.out.bel hb2)
      have hs2 := hb2.size
      clear hO2 hR2 hc1
      go_wp2_with (at_builtin; go_loud (refine wpList_append_lies _ rfl (.tmp 29) (.tmp 32) 22 rfl w1.heap.size 26 i0 _ 1 24 Try.underlying22 hi hz0 hz1 hz2 rfl (by decide) u9 k _ (by rfl) (HG2.out.bel ((Bel.refl w2).alloc _)).own ⟨w2.heap.size, 0, none⟩ 1 1 [.slice (some ⟨g2, 0, none⟩) m c2] (by rfl) rfl (newS _ _ _ _ rfl) (oneS _ _ _) (by omega) hX1.out hX2.out (by simp <;> omega) _ rfl ?_); intro g3 cap3 w3 hown3 hgr3 hat3 hlt3)
      have hob : ∀ i, u9.ownBlock = some i → i < wr.heap.size := fun i h => (World.ownsRow.lt HG.out.own i h).2
      have hrl : ∀ i, i < k → bs i < wr.heap.size := fun i h => by obtain ⟨_, _, h2⟩ := HG.out.row i h; exact h2.lt
      have hG3 := (HG2.out.bel ((Bel.refl w2).alloc (.cells #[.slice (some ⟨g2, 0, none⟩) m c2] 26))).snoc (g := g3) (cap := cap3) (b := g2) (c := c2) (HR2.out.alloc _) r2 (by omega) (fun e => by have := hob _ e; omega) (fun i h e => by have := hrl i h; omega) hown3 hgr3 hat3
      have hB3 := grown_own (w := w1) ((hbr.trans hb2).alloc _) HG2.out.own (Nat.le_refl _) hgr3
      have hF := Lib.hid (hG3.congr (f' := ent T) (ls' := fun _ => m) (fun i h => by simp) (fun i j h _ => by
        by_cases e : i = k
        · rw [if_pos e, e, HE2.out]
        · rw [if_neg e]))
      clear hown3 hgr3 hat3 hlt3 hob hrl hG3
      go_roundw
      case rel => exact ⟨k + 1, by omega, by go_num, hB3, _, _, hF.out⟩
      case measure => simp [intOf]; omega
    · obtain rfl : n = k := by omega
      obtain ⟨g9, c9, rfl⟩ := hG.form (by omega)
      obtain ⟨b3, o3, c3, f1, f2⟩ := Ents.out wr (hb1.trans hbr) b a hb ha
      obtain ⟨b4, o4, c4, f3, f4⟩ := Ents.out wr (hb1.trans hbr) a b ha hb
      have q1 := hG.cell (i := a) ha
      have q2 := hG.cell (i := b) hb
      obtain ⟨m1, hm1, hr1⟩ := hG.row a ha
      obtain ⟨m2, hm2, hr2⟩ := hG.row b hb
      have q3 := hr1.cells b hb
      have q4 := hr2.cells a ha
      have q5 := hr1.fz b
      have q6 := hr2.fz a
      have q7 := hG.lo a ha
      have q8 := hG.lo b hb
      have hne : ¬ bs a = bs b := fun e => hab (hG.inj a b ha hb e)
      have hP := (hG.put (i := a) (j := b) ha hb (ent T b a)).put (i := b) (j := a) hb ha (ent T a b)
      have HP := Lib.hid (hP.congr (f' := fun x y => swF (ent T) a b x y) (ls' := fun _ => n) (fun _ _ => rfl) (fun x y hx hy => by
        unfold swF
        by_cases e1 : x = b ∧ y = a
        · rw [if_pos e1, if_pos (.inr e1), e1.1, e1.2]
        · rw [if_neg e1]
          by_cases e2 : x = a ∧ y = b
          · rw [if_pos e2, if_pos (.inl e2), e2.1, e2.2]
          · rw [if_neg e2, if_neg (fun e => e.elim e2 e1)]))
      have l1 := hr1.lt
      have l2 := hr2.lt
      obtain ⟨ba, hba⟩ : ∃ ba, ba = bs a := ⟨_, rfl⟩
      obtain ⟨bb, hbb⟩ : ∃ bb, bb = bs b := ⟨_, rfl⟩
      rw [← hba] at q1 q3 q5 q7 hne HP l1
      rw [← hbb] at q2 q4 q6 q8 hne HP l2
      obtain ⟨x, hx⟩ : ∃ x, x = ent T b a := ⟨_, rfl⟩
      obtain ⟨y, hy⟩ : ∃ y, y = ent T a b := ⟨_, rfl⟩
      rw [← hx] at f2 HP q4
      rw [← hy] at f4 HP q3
      clear hP hG hr1 hr2 hba hbb hx hy hm1 hm2
      go_wp2
      go_region
      go_wp2
      refine bodyPost_ret (v := .tuple #[.slice (some ⟨g9, 0, none⟩) n c9, .int .i64 0]) (by simp [results, Try.results71, go_sem]) rfl ⟨_, w1.heap.size, rfl, hs1, ?_, _, _, HP.out.bel (by (repeat (first | exact Bel.refl _ | assumption | refine Bel.drew ?_ | refine Bel.drewN ?_ _ | refine Bel.alloc ?_ _ | refine Bel.setCell ?_ (by first | omega | (simp; done) | (simp; omega) | (simp at *; omega)) _ | refine Bel.trans ?_ (by assumption))))⟩
      refine hb1.trans ?_
      exact ((hbr.setCell q7 _).setCell q8 _).trans (by (repeat (first | exact Bel.refl _ | assumption | refine Bel.drew ?_ | refine Bel.drewN ?_ _ | refine Bel.alloc ?_ _ | refine Bel.setCell ?_ (by first | omega | (simp; done) | (simp; omega) | (simp at *; omega)) _ | refine Bel.trans ?_ (by assumption))))
end Go.Proofs.Ytahkihifgafbnaa
