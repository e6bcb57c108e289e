/- The document's Rename. -/
import Derived.Test.YtmckoehkekkldaaBC
import Derived.Test.YtmckoehkekkldaaW
namespace Go.Proofs.Ytmckoehkekkldaa
open Go.RowKit

instance (n : Nat) (l : List Int) : Decidable (Renum n l) := decidable_of_iff (l.length = n ∧ ∀ i : Nat, i < n → (i : Int) ∈ l) ⟨fun h => ⟨h.1, h.2⟩, fun h => ⟨h.len, h.all⟩⟩
/-- Rename's error, and its plan. -/
def errR (n : Int) (P : List Wg) (to : List Int) : Int := if errV n P = 0 then (if Renum n.toNat to then 0 else 1) else errV n P
def RenV (w : World) (n : Int) (P : List Wg) (to : List Int) (e : Ending) (w' : World) : Prop := ∃ A k c, e = .returned (.tuple #[.slice A k c, .int .i64 (errR n P to)]) ∧ k = (if errR n P to = 0 then renP to n.toNat P else []).length ∧ Bel w w' ∧ Plan w.heap.size w' A (if errR n P to = 0 then renP to n.toNat P else [])
theorem RenV.err {w w' : World} {n : Int} {P : List Wg} {to : List Int} {x : Int} (h : errR n P to = x) (hx : x ≠ 0) (hb : Bel w w') : RenV w n P to (.returned (.tuple #[.slice none 0 0, .int .i64 x])) w' := by
  subst h
  exact ⟨none, 0, 0, rfl, by rw [if_neg hx]; rfl, hb, by rw [if_neg hx]; exact .inl rfl⟩
theorem renP_next {to : List Int} {n k : Nat} {P : List Wg} {p : Wg} (h : P[k]? = some p) : (renP to n P).take (k + 1) = (renP to n P).take k ++ [(imgL to n p.1, imgL to n p.2)] := by
  refine take_at ?_
  unfold renP
  rw [List.getElem?_map, h]
  rfl
theorem imgL_le (to : List Int) (n : Nat) (l : List Int) : (imgL to n l).length ≤ n := lotsF_len _ _
set_option maxRecDepth 100000 in
set_option maxHeartbeats 4000000 in
theorem rRename_ok (lo n : Nat) (A : Option Addr) (m c : Nat) (P : List Wg) (B : Option Addr) (d : Nat) (to : List Int) (w : World) (hR : Plan lo w A P) (hm : P.length = m) (hG : Good n P) (hJ : Ints w B to) (hN : Renum n to) :
    Calls Try.prog 73 #[.int .i64 (n : Int), .slice A m c, .slice B n d] w (RenV w (n : Int) P to) := by
  obtain ⟨i0, hi, hz0, hz1, hz2⟩ := info_parts info2W
  have hm3 : m ≤ 3 := by rw [← hm]; exact hG.few
  have hn13 := hG.le
  have Hm := Lib.hid hm; have HGo := Lib.hid hG; have HE := Lib.hid hG.err; have HN := Lib.hid hN
  have HK : Hid (errR (n : Int) P to = 0) := by
    show _ = _
    unfold errR
    rw [if_pos hG.err, if_pos (by simpa using hN)]
  have hnn : ((n : Int) != (n : Int)) = false := by simp
  clear hm hG hN
  go_enter Try.func73, Try.ntmps73
  go_wp2_with fail
  refine (rValidate_any lo _ A m c P _ hR Hm.out).mono ?_
  rintro e w1 ⟨rfl, hb1⟩
  rw [HE.out]
  have hJ1 := hJ.bel hb1
  go_wp2
  go_loop [9] (fun i => ∃ k : Nat, k ≤ n ∧ i = .int .i64 k) (fun i => n - (intOf i).toNat)
  case atStart => exact ⟨0, Nat.zero_le _, rfl⟩
  case round =>
    obtain ⟨k, hk, rfl⟩ := hrel
    by_cases hlt : k < n
    · have hki : (k : Int) < (n : Int) := by omega
      have hh := hasB_iff.2 (HN.out.all k hlt)
      go_wp2_with fail
      refine (rHas_any B n d to (k : Int) _ hJ1 HN.out.len (by unfold maxLen; omega)).mono ?_
      rintro e w2 ⟨rfl, rfl⟩
      rw [hh]
      go_wp2
      go_round
      case rel => exact ⟨k + 1, by omega, by go_num⟩
      case measure => simp [intOf]; omega
    · obtain rfl : n = k := by omega
      go_wp2
      go_loopw [10, 11] (fun v i wr => ∃ k : Nat, k ≤ m ∧ i = .int .i64 k ∧ Bel w wr ∧ OwnP w.heap.size wr v ((renP to n P).take k)) (fun _ i _ => m - (intOf i).toNat)
      case atStart => exact ⟨0, Nat.zero_le _, rfl, hb1, OwnP.nil _ _⟩
      case round =>
        obtain ⟨k, hk, rfl, hb, hO⟩ := hrel
        by_cases hlt : k < m
        · obtain ⟨b, o, l, r, A1, n1, c1, A2, n2, c2, rfl, hbl, hg, hc1, hc2, hI, hl1, hx1, hI2, hl2, hx2⟩ := hR.at_ (k := k) (by rw [Hm.out]; exact hlt)
          have hw := HGo.out.all _ (List.mem_of_getElem? hg)
          obtain ⟨vs, hO⟩ := hO
          have hlen : ((renP to n P).take k).length = k := by rw [List.length_take, renP_length, Hm.out]; omega
          have hO1 := hO.own
          rw [hlen] at hO1
          have hX1 := Lib.hid (show k + 1 ≤ maxLen by unfold maxLen; omega)
          have hX2 := Lib.hid (show (k + 1) * 48 ≤ 140737488355328 by omega)
          have hbase := hb.size
          have HS := Lib.hid (renP_next (to := to) (n := n) hg)
          have HL1 := Lib.hid hl1; have HL2 := Lib.hid hl2
          have HW1 := Lib.hid hw.left; have HW2 := Lib.hid hw.right
          have hki : (k : Int) < (m : Int) := by omega
          have hk0 : (0 : Int) ≤ (k : Int) := by omega
          have held : ∀ w', Bel w w' → w'.cell? ⟨b, o + k * 2, none⟩ = some (.slice A1 n1 c1) ∧ w'.cell? ⟨b, o + k * 2 + 1, none⟩ = some (.slice A2 n2 c2) := fun w' h => ⟨by rw [h.use.1 _ _ hbl]; exact hc1, by rw [h.use.1 _ _ hbl]; exact hc2⟩
          have Held := Lib.hid held
          have hIb := hI.bel hb; have hI2b := hI2.bel hb; have hJb := hJ.bel hb
          have hil1 := imgL_le to n l; have hil2 := imgL_le to n r
          obtain ⟨wo, hwo⟩ : ∃ wo : World, wo = wr := ⟨_, rfl⟩
          subst hwo
          obtain ⟨d1, d2⟩ := Held.out wo hb
          clear hg hl1 hl2 held hc1 hc2 hw hlen hI hI2
          go_wp2
          go_region_held_law (fun w' => Bel w w' ∧ w'.cell? ⟨b, o + k * 2, none⟩ = some (.slice A1 n1 c1) ∧ w'.cell? ⟨b, o + k * 2 + 1, none⟩ = some (.slice A2 n2 c2)) (first | (have hB9 := grown_own (w := w) (((hb.trans hb01).trans hb12).alloc _) hO1 (Nat.le_refl _) hgr3; exact ⟨hB9, Held.out _ hB9⟩) | exact ⟨by (repeat (first | exact Bel.refl _ | assumption | refine Bel.drew ?_ | refine Bel.drewN ?_ _ | refine Bel.alloc ?_ _ | refine Bel.setCell ?_ (by first | omega | (simp; done) | (simp; omega) | (simp at *; omega)) _ | refine Bel.trans ?_ (by assumption))), Held.out _ (by (repeat (first | exact Bel.refl _ | assumption | refine Bel.drew ?_ | refine Bel.drewN ?_ _ | refine Bel.alloc ?_ _ | refine Bel.setCell ?_ (by first | omega | (simp; done) | (simp; omega) | (simp at *; omega)) _ | refine Bel.trans ?_ (by assumption))))⟩)
            (first | (go_at_call_of 105 (Value.slice A1 n1 c1); refine (renamed_any A1 _ n1 c1 n d l to _ (hIb.bel (by (repeat (first | exact Bel.refl _ | assumption | refine Bel.drew ?_ | refine Bel.drewN ?_ _ | refine Bel.alloc ?_ _ | refine Bel.setCell ?_ (by first | omega | (simp; done) | (simp; omega) | (simp at *; omega)) _ | refine Bel.trans ?_ (by assumption))))) HL1.out (hJb.bel (by (repeat (first | exact Bel.refl _ | assumption | refine Bel.drew ?_ | refine Bel.drewN ?_ _ | refine Bel.alloc ?_ _ | refine Bel.setCell ?_ (by first | omega | (simp; done) | (simp; omega) | (simp at *; omega)) _ | refine Bel.trans ?_ (by assumption))))) HN.out HW1.out hn13).mono ?_; rintro e w2 ⟨v2, rfl, hO2, hb2⟩; obtain ⟨B1, q1, d1', rfl, hq1, hI1⟩ := hO2.form; have HQ1 := Lib.hid hq1; have hf1 := fun b o (hA : B1 = some ⟨b, o, none⟩) => World.ownsRow.lt hO2 b (by rw [hA]; rfl); clear hq1 hO2; have hb01 : Bel wo w2 := (by (repeat (first | exact Bel.refl _ | assumption | refine Bel.drew ?_ | refine Bel.drewN ?_ _ | refine Bel.alloc ?_ _ | refine Bel.setCell ?_ (by first | omega | (simp; done) | (simp; omega) | (simp at *; omega)) _ | refine Bel.trans ?_ (by assumption)))); have hs1 := hb01.size) | (go_at_call_of 105 (Value.slice A2 n2 c2); refine (renamed_any A2 _ n2 c2 n d r to _ (hI2b.bel (by (repeat (first | exact Bel.refl _ | assumption | refine Bel.drew ?_ | refine Bel.drewN ?_ _ | refine Bel.alloc ?_ _ | refine Bel.setCell ?_ (by first | omega | (simp; done) | (simp; omega) | (simp at *; omega)) _ | refine Bel.trans ?_ (by assumption))))) HL2.out (hJb.bel (by (repeat (first | exact Bel.refl _ | assumption | refine Bel.drew ?_ | refine Bel.drewN ?_ _ | refine Bel.alloc ?_ _ | refine Bel.setCell ?_ (by first | omega | (simp; done) | (simp; omega) | (simp at *; omega)) _ | refine Bel.trans ?_ (by assumption))))) HN.out HW2.out hn13).mono ?_; rintro e w4 ⟨v4, rfl, hO4, hb4⟩; obtain ⟨B2, q2, d2', rfl, hq2, hI3⟩ := hO4.form; have HQ2 := Lib.hid hq2; have hf2 := fun b o (hA : B2 = some ⟨b, o, none⟩) => World.ownsRow.lt hO4 b (by rw [hA]; rfl); clear hq2 hO4; have hb12 : Bel w2 w4 := (by (repeat (first | exact Bel.refl _ | assumption | refine Bel.drew ?_ | refine Bel.drewN ?_ _ | refine Bel.alloc ?_ _ | refine Bel.setCell ?_ (by first | omega | (simp; done) | (simp; omega) | (simp at *; omega)) _ | refine Bel.trans ?_ (by assumption)))); have hs2 := hb12.size) | (refine step_append_lies _ rfl (.tmp 37) (.tmp 53) 22 rfl w.heap.size 50 i0 _ 2 48 Try.underlying22 hi hz0 hz1 hz2 rfl (by decide) u10 k vs (by rfl) ((ownsRow_bel hO1 (by (repeat (first | exact Bel.refl _ | assumption | refine Bel.drew ?_ | refine Bel.drewN ?_ _ | refine Bel.alloc ?_ _ | refine Bel.setCell ?_ (by first | omega | (simp; done) | (simp; omega) | (simp at *; omega)) _ | refine Bel.trans ?_ (by assumption))))).alloc _) _ 1 1 [.slice B1 q1 d1', .slice B2 q2 d2'] (by rfl) rfl (new2 _ _ _ _ _ rfl) (one2 _ _ _ _ _ _) (by omega) hX1.out hX2.out (Nat.le_trans hbase (by simp <;> omega)) _ rfl ?_; intro g3 cap3 w3 hown3 hgr3 hat3 hlt3))
          all_goals
            have hlen : ((renP to n P).take k).length = k := by rw [List.length_take, renP_length, Hm.out]; omega
            have hO3 := OwnPV.snoc (g := g3) ((hO.bel (hb01.trans hb12)).bel ((Bel.refl w4).alloc _)) ((hI1.bel hb12).bel ((Bel.refl w4).alloc _)) HQ1.out.symm (by rw [HQ1.out]; unfold maxLen; omega)
              (fun b o hA => ⟨by have := (hf1 b o hA).2; simp <;> omega, fun e => by have h1 := (World.ownsRow.lt hO1 b e).2; have h2 := (hf1 b o hA).1; first | omega | (simp at h2; omega), by have h2 := (hf1 b o hA).1; first | omega | (simp at h2; omega)⟩)
              (hI3.bel ((Bel.refl w4).alloc _)) HQ2.out.symm (by rw [HQ2.out]; unfold maxLen; omega)
              (fun b o hA => ⟨by have := (hf2 b o hA).2; simp <;> omega, fun e => by have h1 := (World.ownsRow.lt hO1 b e).2; have h2 := (hf2 b o hA).1; first | omega | (simp at h2; omega), by have h2 := (hf2 b o hA).1; first | omega | (simp at h2; omega)⟩) (by rw [hlen]; exact hown3) hgr3 (by simpa using hat3)
            have hB3 := grown_own (w := w) (((hb.trans hb01).trans hb12).alloc _) hO1 (Nat.le_refl _) hgr3
            rw [hlen, ← HS.out] at hO3
            have HO3 := Lib.hid hO3
            clear hown3 hgr3 hat3 hlt3 hI1 hf1 hb2 hI3 hf2 hb4 hO hO1 hO3 hlen
            go_wp2
            go_roundw
            case rel => exact ⟨k + 1, by omega, by go_num, hB3, HO3.out⟩
            case measure => simp [intOf]; omega
        · obtain rfl : m = k := by omega
          have hall : (renP to n P).take m = renP to n P := List.take_of_length_le (by rw [renP_length, Hm.out]; omega)
          rw [hall] at hO
          obtain ⟨A', n', c', rfl, hn', hP⟩ := hO.form
          have HN' := Lib.hid hn'; have HP := Lib.hid hP
          clear hO hn' hP hall
          go_wp2
          exact bodyPost_ret (v := .tuple #[.slice A' n' c', .int .i64 0]) (by simp [results, Try.results73, go_sem]) rfl ⟨A', n', c', by rw [HK.out], by rw [if_pos HK.out]; exact HN'.out, hb, by rw [if_pos HK.out]; exact HP.out⟩
end Go.Proofs.Ytmckoehkekkldaa
