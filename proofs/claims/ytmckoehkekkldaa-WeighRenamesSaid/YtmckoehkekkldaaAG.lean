/- Cases of the program. -/
import Derived.Test.YtmckoehkekkldaaAE
import Derived.Test.YtmckoehkekkldaaAF
namespace Go.Proofs.Ytmckoehkekkldaa
open Go.RowKit

/-- The error of a plan and answers. -/
def errK (n : Int) (P : List Wg) (l : List Int) : Int := if errV n P = 0 then (if l.length = P.length ∧ sidesB l = true then 0 else 1) else errV n P
/-- Has a case these answers? -/
def isAns (P : List Wg) (l : List Int) (c : Int × Int) : Bool := decide (timesL (markL P c.1) c.2 = l)
def casesV (n : Nat) (P : List Wg) (l : List Int) (k : Nat) : List (Int × Int) := ((casesL n).take k).filter (isAns P l)
/-- What Cases returns. -/
def casesR (n : Int) (P : List Wg) (l : List Int) : List (Int × Int) := if errK n P l = 0 then (casesL n.toNat).filter (isAns P l) else []
def blankR (n : Int) (P : List Wg) (l : List Int) : Bool := if errK n P l = 0 then blankB l else false
theorem casesV_next {n : Nat} {P : List Wg} {l : List Int} {k : Nat} (hk : k < n * 2) : casesV n P l (k + 1) = if isAns P l ((lotN k : Int), wayN k) = true then casesV n P l k ++ [((lotN k : Int), wayN k)] else casesV n P l k := by
  unfold casesV
  rw [take_at (casesL_at n k hk), List.filter_append]
  cases h : isAns P l ((lotN k : Int), wayN k) <;> simp [h]
theorem casesV_len (n : Nat) (P : List Wg) (l : List Int) (k : Nat) : (casesV n P l k).length ≤ k := Nat.le_trans (List.length_filter_le _ _) (List.length_take_le _ _)
theorem casesV_all (n : Nat) (P : List Wg) (l : List Int) : casesV n P l (n * 2) = (casesL n).filter (isAns P l) := by
  unfold casesV
  rw [List.take_of_length_le (by rw [casesL_length]; exact Nat.le_refl _)]
theorem given_at (l : List Int) (k : Nat) : l[k]? = if k < l.length then some (givenF l k) else none := by
  unfold givenF
  split
  · rename_i h
    rw [List.getD_eq_getElem?_getD, List.getElem?_eq_getElem h]
    rfl
  · rename_i h
    exact List.getElem?_eq_none (by omega)
theorem given_out {l : List Int} {k : Nat} (h : l.length ≤ k) : givenF l k = 0 := by
  unfold givenF
  rw [List.getD_eq_getElem?_getD, List.getElem?_eq_none h]
  rfl
theorem ans_given {P : List Wg} {l : List Int} (h3 : P.length ≤ 3) (hl : l.length = P.length) (x y : Int) : isAns P l (x, y) = eq3 (ansN P x y) (givenF l) := by
  unfold isAns
  rw [Bool.eq_iff_iff, decide_eq_true_iff, eq3_iff]
  constructor
  · intro h
    have each : ∀ k, ansN P x y k = givenF l k := by
      intro k
      by_cases hk : k < P.length
      · have h1 := ansL_at P x y k
        simp only at h
        rw [h, given_at, if_pos (by omega), if_pos hk] at h1
        injection h1 with h1
        exact h1.symm
      · rw [ansN_out (by omega), given_out (by omega)]
    exact ⟨each 0, each 1, each 2⟩
  · rintro ⟨h0, h1, h2⟩
    apply List.ext_getElem?
    intro k
    simp only
    rw [ansL_at, given_at, hl]
    split
    · rcases (by omega : k = 0 ∨ k = 1 ∨ k = 2) with rfl | rfl | rfl
      · rw [h0]
      · rw [h1]
      · rw [h2]
    · rfl
theorem blank_given {l : List Int} (h3 : l.length ≤ 3) : blankB l = eq3 (givenF l) (fun _ => 0) := by
  rw [Bool.eq_iff_iff, eq3_iff]
  unfold blankB
  rw [List.all_eq_true]
  constructor
  · intro h
    have each : ∀ k, givenF l k = 0 := by
      intro k
      by_cases hk : k < l.length
      · have := h (givenF l k) (List.mem_of_getElem? (i := k) (by rw [given_at, if_pos hk]))
        simpa using this
      · exact given_out (by omega)
    exact ⟨each 0, each 1, each 2⟩
  · rintro ⟨h0, h1, h2⟩ v hv
    obtain ⟨k, hk⟩ := List.mem_iff_getElem?.1 hv
    rw [given_at] at hk
    split at hk
    · injection hk with hk
      subst hk
      rcases (by omega : k = 0 ∨ k = 1 ∨ k = 2) with rfl | rfl | rfl
      · simpa using h0
      · simpa using h1
      · simpa using h2
    · cases hk
theorem new2i (w : World) (a b : Int) (ty : TypeId) (g : Nat) (hg : g = w.heap.size) : ∀ j u, [Value.int .i64 a, .int .i64 b][j]? = some u → (w.alloc (.cells #[.int .i64 a, .int .i64 b] ty)).cell? ((⟨g, 0, none⟩ : Addr).add j) = some u := by
  subst hg
  intro j u hj
  rw [Go.Addr.add_mid]
  match j, hj with
  | 0, hj => simpa using hj
  | 1, hj => simpa using hj
theorem one2i (a b : Int) : ∀ u ∈ [Value.int .i64 a, .int .i64 b], u.oneCell' = true := by
  intro u hu
  simp at hu
  rcases hu with rfl | rfl <;> rfl
theorem box_m {w0 w' : World} {a b c : Int} {ty : TypeId} (h : Bel (w0.alloc (.cells #[.int .i64 a, .int .i64 b, .int .i64 c] ty)) w') :
    w'.cell? ⟨w0.heap.size, 0, none⟩ = some (.int .i64 a) ∧ w'.cell? ⟨w0.heap.size, 1, none⟩ = some (.int .i64 b) ∧ w'.cell? ⟨w0.heap.size, 2, none⟩ = some (.int .i64 c) := by
  refine ⟨?_, ?_, ?_⟩ <;> (rw [h.use.1 _ _ (by simp)]; simp)
/-- Two marks, number by number. -/
def eqv (a b c x y z : Int) : Bool := a == x && (b == y && c == z)
theorem run_eqv (w : World) (a b c x y z : Int) : (Op.equalIn 10000 78 (.agg #[.int .i64 a, .int .i64 b, .int .i64 c]) (.agg #[.int .i64 x, .int .i64 y, .int .i64 z])).run Try.prog w = .ok (eqv a b c x y z) w := run_eq3 w a b c x y z
attribute [local go_sem] run_eqv
/-- Cases' answer, for a right plan and right answers. -/
def CasesOK (w : World) (n : Nat) (P : List Wg) (l : List Int) (e : Ending) (w' : World) : Prop :=
  ∃ A' n' c', e = .returned (.tuple #[.slice A' n' c', .bool (blankB l), .int .i64 0]) ∧ Bel w w' ∧ Prs w' A' ((casesL n).filter (isAns P l)) ∧ ((casesL n).filter (isAns P l)).length = n' ∧ n' ≤ 26
set_option maxRecDepth 100000 in
set_option maxHeartbeats 4000000 in
theorem cases_ok (lo n : Nat) (A : Option Addr) (m c : Nat) (P : List Wg) (B : Option Addr) (d : Nat) (l : List Int) (w : World) (hR : Plan lo w A P) (hm : P.length = m) (hG : Good n P) (hI : Ints w B l) (hl : l.length = m) (hs : sidesB l = true) :
    Calls Try.prog 47 #[.int .i64 (n : Int), .slice A m c, .slice B m d] w (CasesOK w n P l) := by
  obtain ⟨i0, hi, hz0, hz1, hz2⟩ := info_parts info2C
  have h3 := hG.few
  have hm3 : m ≤ 3 := by omega
  have hn13 := hG.le
  have HA := Lib.hid (fun x y => ans_given (l := l) h3 (by omega) x y)
  have HBL := Lib.hid (blank_given (l := l) (by omega))
  have Hm := Lib.hid hm; have Hl := Lib.hid hl; have HGo := Lib.hid hG; have HE := Lib.hid hG.err; have HS := Lib.hid hs
  have hmm : ((m : Int) != (m : Int)) = false := by simp
  clear hm hl hG hs h3
  go_enter Try.func47, Try.ntmps47
  go_wp2_with fail
  refine (validate_any lo _ A m c P _ hR Hm.out).mono ?_
  rintro e w1 ⟨rfl, hb1⟩
  rw [HE.out]
  go_wp2_with fail
  refine (areSides_any B m d l _ (hI.bel hb1) Hl.out (by unfold maxLen; omega)).mono ?_
  rintro e w1' ⟨rfl, hw⟩
  subst hw
  rw [HS.out]
  go_wp2_with fail
  refine (marksOf_any lo n A m c P _ (hR.bel hb1) Hm.out HGo.out).mono ?_
  rintro e w2 ⟨gm, rfl, hgm, hb2, hM⟩
  go_wp2_with fail
  refine (markOf_any B m d l _ (hI.bel (hb1.trans hb2)) Hl.out hm3).mono ?_
  rintro e w3 ⟨rfl, hb3⟩
  have hM3 : Marks w3 gm n P := Row.bel hM hb3
  have hbw := (hb1.trans hb2).trans hb3
  clear hM hb1 hb2 hb3 hgm
  go_wp2_with fail
  refine (allCases_any n _ hn13).mono ?_
  rintro e w4 ⟨Ac, cc, rfl, hcap, hb4, hCs⟩
  have Held : Hid (∀ w', Bel w4 w' → w'.cell? ⟨w3.heap.size, 0, none⟩ = some (.int .i64 (givenF l 0)) ∧ w'.cell? ⟨w3.heap.size, 1, none⟩ = some (.int .i64 (givenF l 1)) ∧ w'.cell? ⟨w3.heap.size, 2, none⟩ = some (.int .i64 (givenF l 2))) := fun w' h => box_m (hb4.trans h)
  have hM4 : Marks w4 gm n P := Row.bel hM3 (((Bel.refl w3).alloc _).trans hb4)
  have hbw4 : Bel w w4 := by (repeat (first | exact Bel.refl _ | assumption | refine Bel.drew ?_ | refine Bel.drewN ?_ _ | refine Bel.alloc ?_ _ | refine Bel.setCell ?_ (by first | omega | (simp; done) | (simp; omega) | (simp at *; omega)) _ | refine Bel.trans ?_ (by assumption)))
  have hs4 := hb4.size
  simp at hs4
  clear hM3 hb4 hbw
  have hn2i : (n : Int) * 2 ≤ 26 := by omega
  go_wp2
  go_loopw [12, 14, 39] (fun v _ i wr => ∃ k : Nat, k ≤ n * 2 ∧ i = .int .i64 k ∧ Bel w4 wr ∧ Own2 24 w4.heap.size wr v (casesV n P l k)) (fun _ _ i _ => n * 2 - (intOf i).toNat)
  case atStart => exact ⟨0, Nat.zero_le _, rfl, Bel.refl _, World.ownsRow_nil _ _ _ _⟩
  case round =>
    obtain ⟨k, hk, rfl, hb, hO⟩ := hrel
    by_cases hlt : k < n * 2
    · obtain ⟨bc, oc, rfl, hbc, c1, c2⟩ := hCs.case hlt
      have hki : (k : Int) < (n : Int) * 2 := by omega
      have hk0 : (0 : Int) ≤ (k : Int) := by omega
      have hx1 : lotN k < n := by unfold lotN; omega
      have d1 : wr.cell? ⟨bc, oc + k * 2, none⟩ = some (.int .i64 (lotN k : Int)) := by rw [hb.use.1 _ _ hbc]; exact c1
      have d2 : wr.cell? ⟨bc, oc + k * 2 + 1, none⟩ = some (.int .i64 (wayN k)) := by rw [hb.use.1 _ _ hbc]; exact c2
      have hnx := casesV_next (P := P) (l := l) hlt
      rw [HA.out] at hnx
      have hll := casesV_len n P l k
      obtain ⟨ll, hL⟩ : ∃ ll, ll = casesV n P l k := ⟨_, rfl⟩
      rw [← hL] at hO hnx hll
      have hO1 : wr.ownsRow w4.heap.size 24 2 u12 ll.length (cel2 ll) := hO
      obtain ⟨p0, p1, p2⟩ := Held.out wr hb
      obtain ⟨wo, hwo⟩ : ∃ wo : World, wo = wr := ⟨_, rfl⟩
      subst hwo
      have Held2 : Hid (∀ w', Bel (wo.alloc (.cells #[.int .i64 (lotN k : Int), .int .i64 (wayN k)] 24)) w' → (w'.cell? ⟨wo.heap.size, 0, none⟩ = some (.int .i64 (lotN k : Int)) ∧ w'.cell? ⟨wo.heap.size, 1, none⟩ = some (.int .i64 (wayN k))) ∧ w'.cell? ⟨w3.heap.size, 0, none⟩ = some (.int .i64 (givenF l 0)) ∧ w'.cell? ⟨w3.heap.size, 1, none⟩ = some (.int .i64 (givenF l 1)) ∧ w'.cell? ⟨w3.heap.size, 2, none⟩ = some (.int .i64 (givenF l 2))) := fun w' h => ⟨box_case h, Held.out w' ((hb.alloc _).trans h)⟩
      have hX1 := Lib.hid (show ll.length + 1 ≤ maxLen by unfold maxLen; omega)
      have hX2 := Lib.hid (show (ll.length + 1) * 16 ≤ 140737488355328 by omega)
      have hbs := hb.size
      have hOR := wayN_or k
      clear c1 c2 hL hll
      have HOR := Lib.hid hOR
      clear hOR
      cases hq : eq3 (ansN P (lotN k : Int) (wayN k)) (givenF l)
      · rw [hq, if_neg (by decide)] at hnx
        have HNX := Lib.hid hnx
        have HQ := Lib.hid hq
        clear hnx hq
        go_wp2
        go_region_held3 (fun w' => Bel wo w' ∧ (w'.cell? ⟨wo.heap.size, 0, none⟩ = some (.int .i64 (lotN k : Int)) ∧ w'.cell? ⟨wo.heap.size, 1, none⟩ = some (.int .i64 (wayN k))) ∧ w'.cell? ⟨w3.heap.size, 0, none⟩ = some (.int .i64 (givenF l 0)) ∧ w'.cell? ⟨w3.heap.size, 1, none⟩ = some (.int .i64 (givenF l 1)) ∧ w'.cell? ⟨w3.heap.size, 2, none⟩ = some (.int .i64 (givenF l 2))) (exact ⟨by (repeat (first | exact Bel.refl _ | assumption | refine Bel.drew ?_ | refine Bel.drewN ?_ _ | refine Bel.alloc ?_ _ | refine Bel.setCell ?_ (by first | omega | (simp; done) | (simp; omega) | (simp at *; omega)) _ | refine Bel.trans ?_ (by assumption))), Held2.out _ (by (repeat (first | exact Bel.refl _ | assumption | refine Bel.drew ?_ | refine Bel.drewN ?_ _ | refine Bel.alloc ?_ _ | refine Bel.setCell ?_ (by first | omega | (simp; done) | (simp; omega) | (simp at *; omega)) _ | refine Bel.trans ?_ (by assumption))))⟩) (first | (go_at_call 79; refine (answersTo_any gm n n (lotN k) (wayN k) P _ ?_ hx1 HOR.out).mono ?_; exact Row.bel hM4 (by (repeat (first | exact Bel.refl _ | assumption | refine Bel.drew ?_ | refine Bel.drewN ?_ _ | refine Bel.alloc ?_ _ | refine Bel.setCell ?_ (by first | omega | (simp; done) | (simp; omega) | (simp at *; omega)) _ | refine Bel.trans ?_ (by assumption)))); rintro e w5 ⟨rfl, hb5⟩))
        all_goals
          have hbo : Bel wo w5 := by (repeat (first | exact Bel.refl _ | assumption | refine Bel.drew ?_ | refine Bel.drewN ?_ _ | refine Bel.alloc ?_ _ | refine Bel.setCell ?_ (by first | omega | (simp; done) | (simp; omega) | (simp at *; omega)) _ | refine Bel.trans ?_ (by assumption)))
          have hbo4 : Bel w4 w5 := by (repeat (first | exact Bel.refl _ | assumption | refine Bel.drew ?_ | refine Bel.drewN ?_ _ | refine Bel.alloc ?_ _ | refine Bel.setCell ?_ (by first | omega | (simp; done) | (simp; omega) | (simp at *; omega)) _ | refine Bel.trans ?_ (by assumption)))
          have hO5 : Own2 24 w4.heap.size w5 u12 (casesV n P l (k + 1)) := by rw [HNX.out]; exact ownsRow_bel hO1 hbo
          have HO5 := Lib.hid hO5
          clear hO5 hO hO1
          have hqq : eqv (ansN P (lotN k : Int) (wayN k) 0) (ansN P (lotN k : Int) (wayN k) 1) (ansN P (lotN k : Int) (wayN k) 2) (givenF l 0) (givenF l 1) (givenF l 2) = false := HQ.out
          rw [hqq]
          clear hqq
          go_wp2
          go_roundw
          case rel => exact ⟨k + 1, by omega, by go_num, hbo4, HO5.out⟩
          case measure => simp [intOf]; omega
      · rw [hq, if_pos rfl] at hnx
        have HNX := Lib.hid hnx
        have HQ := Lib.hid hq
        clear hnx hq
        go_wp2
        go_region_held3 (fun w' => Bel wo w' ∧ (w'.cell? ⟨wo.heap.size, 0, none⟩ = some (.int .i64 (lotN k : Int)) ∧ w'.cell? ⟨wo.heap.size, 1, none⟩ = some (.int .i64 (wayN k))) ∧ w'.cell? ⟨w3.heap.size, 0, none⟩ = some (.int .i64 (givenF l 0)) ∧ w'.cell? ⟨w3.heap.size, 1, none⟩ = some (.int .i64 (givenF l 1)) ∧ w'.cell? ⟨w3.heap.size, 2, none⟩ = some (.int .i64 (givenF l 2))) (exact ⟨by (repeat (first | exact Bel.refl _ | assumption | refine Bel.drew ?_ | refine Bel.drewN ?_ _ | refine Bel.alloc ?_ _ | refine Bel.setCell ?_ (by first | omega | (simp; done) | (simp; omega) | (simp at *; omega)) _ | refine Bel.trans ?_ (by assumption))), Held2.out _ (by (repeat (first | exact Bel.refl _ | assumption | refine Bel.drew ?_ | refine Bel.drewN ?_ _ | refine Bel.alloc ?_ _ | refine Bel.setCell ?_ (by first | omega | (simp; done) | (simp; omega) | (simp at *; omega)) _ | refine Bel.trans ?_ (by assumption))))⟩) (first | (go_at_call 79; refine (answersTo_any gm n n (lotN k) (wayN k) P _ ?_ hx1 HOR.out).mono ?_; exact Row.bel hM4 (by (repeat (first | exact Bel.refl _ | assumption | refine Bel.drew ?_ | refine Bel.drewN ?_ _ | refine Bel.alloc ?_ _ | refine Bel.setCell ?_ (by first | omega | (simp; done) | (simp; omega) | (simp at *; omega)) _ | refine Bel.trans ?_ (by assumption)))); rintro e w5 ⟨rfl, hb5⟩))
        all_goals
          obtain ⟨⟨k0, k1⟩, k2⟩ := Held2.out w5 (by (repeat (first | exact Bel.refl _ | assumption | refine Bel.drew ?_ | refine Bel.drewN ?_ _ | refine Bel.alloc ?_ _ | refine Bel.setCell ?_ (by first | omega | (simp; done) | (simp; omega) | (simp at *; omega)) _ | refine Bel.trans ?_ (by assumption))))
          have hbo : Bel wo w5 := by (repeat (first | exact Bel.refl _ | assumption | refine Bel.drew ?_ | refine Bel.drewN ?_ _ | refine Bel.alloc ?_ _ | refine Bel.setCell ?_ (by first | omega | (simp; done) | (simp; omega) | (simp at *; omega)) _ | refine Bel.trans ?_ (by assumption)))
          have hbo4 : Bel w4 w5 := by (repeat (first | exact Bel.refl _ | assumption | refine Bel.drew ?_ | refine Bel.drewN ?_ _ | refine Bel.alloc ?_ _ | refine Bel.setCell ?_ (by first | omega | (simp; done) | (simp; omega) | (simp at *; omega)) _ | refine Bel.trans ?_ (by assumption)))
          have hs5 := hbo4.size
          have hqq : eqv (ansN P (lotN k : Int) (wayN k) 0) (ansN P (lotN k : Int) (wayN k) 1) (ansN P (lotN k : Int) (wayN k) 2) (givenF l 0) (givenF l 1) (givenF l 2) = true := HQ.out
          rw [hqq]
          clear hqq
          go_wp2_with (at_builtin; go_loud (refine wpList_append_lies _ rfl (.tmp 48) (.tmp 50) 55 rfl w4.heap.size 24 i0 _ 2 16 Try.underlying55 hi hz0 hz1 hz2 rfl (by decide) u12 ll.length (cel2 ll) (by rfl) ((ownsRow_bel hO1 hbo).alloc _) ⟨w5.heap.size, 0, none⟩ 1 1 [.int .i64 (lotN k : Int), .int .i64 (wayN k)] (by rfl) rfl (new2i _ _ _ _ _ rfl) (one2i _ _) (by omega) hX1.out hX2.out (by simp <;> omega) _ rfl ?_); intro g3 cap3 w6 hown3 hgr3 hat3 hlt3)
          have hB6 := grown_own (w := w4) (hbo4.alloc _) (ownsRow_bel hO1 hbo) (Nat.le_refl _) hgr3
          have hO6 : Own2 24 w4.heap.size w6 (.slice (some ⟨g3, 0, none⟩) (ll.length + 1) cap3) (casesV n P l (k + 1)) := by
            rw [HNX.out]
            unfold Own2
            rw [List.length_append, cel2_append]
            exact hown3
          have HO6 := Lib.hid hO6
          clear hown3 hgr3 hat3 hlt3 hO6 hO hO1
          go_roundw
          case rel => exact ⟨k + 1, by omega, by go_num, hB6, HO6.out⟩
          case measure => simp [intOf]; omega
    · obtain rfl : k = n * 2 := by omega
      rw [casesV_all] at hO
      obtain ⟨A', n', c', rfl, hn', hP, -⟩ := hO.form
      have hle : n' ≤ 26 := by
        rw [hn']
        refine Nat.le_trans (List.length_filter_le _ _) ?_
        rw [casesL_length]
        omega
      have HN := Lib.hid hn'.symm
      have HP := Lib.hid hP
      obtain ⟨p0, p1, p2⟩ := Held.out wr hb
      have hbl : blankB l = eqv (givenF l 0) (givenF l 1) (givenF l 2) 0 0 0 := HBL.out
      have HBB := Lib.hid hbl
      clear hn' hO hP hbl
      go_wp2
      go_region_held3 (fun w' => Bel w4 w' ∧ w'.cell? ⟨w3.heap.size, 0, none⟩ = some (.int .i64 (givenF l 0)) ∧ w'.cell? ⟨w3.heap.size, 1, none⟩ = some (.int .i64 (givenF l 1)) ∧ w'.cell? ⟨w3.heap.size, 2, none⟩ = some (.int .i64 (givenF l 2))) (exact ⟨by (repeat (first | exact Bel.refl _ | assumption | refine Bel.drew ?_ | refine Bel.drewN ?_ _ | refine Bel.alloc ?_ _ | refine Bel.setCell ?_ (by first | omega | (simp; done) | (simp; omega) | (simp at *; omega)) _ | refine Bel.trans ?_ (by assumption))), Held.out _ (by (repeat (first | exact Bel.refl _ | assumption | refine Bel.drew ?_ | refine Bel.drewN ?_ _ | refine Bel.alloc ?_ _ | refine Bel.setCell ?_ (by first | omega | (simp; done) | (simp; omega) | (simp at *; omega)) _ | refine Bel.trans ?_ (by assumption))))⟩) (first | (go_at_call 91; refine (blank_any _).mono ?_; rintro e w5 ⟨rfl, hb5⟩))
      all_goals
        have hbo : Bel wr w5 := by (repeat (first | exact Bel.refl _ | assumption | refine Bel.drew ?_ | refine Bel.drewN ?_ _ | refine Bel.alloc ?_ _ | refine Bel.setCell ?_ (by first | omega | (simp; done) | (simp; omega) | (simp at *; omega)) _ | refine Bel.trans ?_ (by assumption)))
        have HB := Lib.hid (hbw4.trans (hb.trans hbo))
        have HP5 := Lib.hid (HP.out.bel hbo)
        go_wp2
        exact bodyPost_ret (v := .tuple #[.slice A' n' c', .bool (eqv (givenF l 0) (givenF l 1) (givenF l 2) 0 0 0), .int .i64 0]) (by simp [results, Try.results47, go_sem]) rfl ⟨A', n', c', by rw [HBB.out], HB.out, HP5.out, HN.out, hle⟩
end Go.Proofs.Ytmckoehkekkldaa
