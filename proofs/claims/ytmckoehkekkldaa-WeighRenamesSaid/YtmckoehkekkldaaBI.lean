/- Rename of the program. -/
import Derived.Test.YtmckoehkekkldaaBH
import Derived.Test.YtmckoehkekkldaaBE
import Derived.Test.YtmckoehkekkldaaAL
namespace Go.Proofs.Ytmckoehkekkldaa
open Go.RowKit

/-- The marks of the first k lots lie where their new numbers say. -/
structure RM (w : World) (g n : Nat) (to : List Int) (P : List Wg) (k : Nat) : Prop where
  lt : g < w.heap.size
  fz : ∀ i, w.frozen? ⟨g, i, none⟩ = false
  all : ∀ i, i < n * 3 → ∃ v, w.cell? ⟨g, i, none⟩ = some v
  done : ∀ x, x < k → w.cell? ⟨g, toN to x * 3, none⟩ = some (.int .i64 (markN P (x : Int) 0)) ∧ w.cell? ⟨g, toN to x * 3 + 1, none⟩ = some (.int .i64 (markN P (x : Int) 1)) ∧ w.cell? ⟨g, toN to x * 3 + 2, none⟩ = some (.int .i64 (markN P (x : Int) 2))
theorem RM.bel {w w' : World} {g n k : Nat} {to : List Int} {P : List Wg} (h : RM w g n to P k) (hb : Bel w w') : RM w' g n to P k :=
  ⟨Nat.lt_of_lt_of_le h.lt hb.size, fun i => by rw [hb.use.2.1 _ _ h.lt]; exact h.fz i, fun i hi => by rw [hb.use.1 _ _ h.lt]; exact h.all i hi, fun x hx => by
    rw [hb.use.1 _ _ h.lt, hb.use.1 _ _ h.lt, hb.use.1 _ _ h.lt]
    exact h.done x hx⟩
theorem RM.step {w : World} {g n k y : Nat} {to : List Int} {P : List Wg} (h : RM w g n to P k) (hR : Renum n to) (hk : k < n) (hy : toN to k = y) :
    RM (((w.setCell ⟨g, y * 3, none⟩ (.int .i64 (markN P (k : Int) 0))).setCell ⟨g, y * 3 + 1, none⟩ (.int .i64 (markN P (k : Int) 1))).setCell ⟨g, y * 3 + 2, none⟩ (.int .i64 (markN P (k : Int) 2))) g n to P (k + 1) := by
  have hyn : y < n := by rw [← hy]; exact (hR.at_ hk).2
  obtain ⟨v0, hv0⟩ := h.all (y * 3) (by omega)
  obtain ⟨v1, hv1⟩ := h.all (y * 3 + 1) (by omega)
  obtain ⟨v2, hv2⟩ := h.all (y * 3 + 2) (by omega)
  generalize hm0 : markN P (k : Int) 0 = m0
  generalize hm1 : markN P (k : Int) 1 = m1
  generalize hm2 : markN P (k : Int) 2 = m2
  have far : ∀ i, i ≠ y * 3 → i ≠ y * 3 + 1 → i ≠ y * 3 + 2 → (((w.setCell ⟨g, y * 3, none⟩ (.int .i64 m0)).setCell ⟨g, y * 3 + 1, none⟩ (.int .i64 m1)).setCell ⟨g, y * 3 + 2, none⟩ (.int .i64 m2)).cell? ⟨g, i, none⟩ = w.cell? ⟨g, i, none⟩ := fun i h1 h2 h3 => by
    rw [World.cell?_setCell_other _ _ _ _ (by simp <;> omega), World.cell?_setCell_other _ _ _ _ (by simp <;> omega), World.cell?_setCell_other _ _ _ _ (by simp <;> omega)]
  have e2 : (((w.setCell ⟨g, y * 3, none⟩ (.int .i64 m0)).setCell ⟨g, y * 3 + 1, none⟩ (.int .i64 m1)).setCell ⟨g, y * 3 + 2, none⟩ (.int .i64 m2)).cell? ⟨g, y * 3 + 2, none⟩ = some (.int .i64 m2) :=
    World.cell?_setCell_same _ _ _ (by rw [World.cell?_setCell_other _ _ _ _ (by simp), World.cell?_setCell_other _ _ _ _ (by simp)]; exact hv2)
  have e1 : (((w.setCell ⟨g, y * 3, none⟩ (.int .i64 m0)).setCell ⟨g, y * 3 + 1, none⟩ (.int .i64 m1)).setCell ⟨g, y * 3 + 2, none⟩ (.int .i64 m2)).cell? ⟨g, y * 3 + 1, none⟩ = some (.int .i64 m1) := by
    rw [World.cell?_setCell_other _ _ _ _ (by simp)]
    exact World.cell?_setCell_same _ _ _ (by rw [World.cell?_setCell_other _ _ _ _ (by simp)]; exact hv1)
  have e0 : (((w.setCell ⟨g, y * 3, none⟩ (.int .i64 m0)).setCell ⟨g, y * 3 + 1, none⟩ (.int .i64 m1)).setCell ⟨g, y * 3 + 2, none⟩ (.int .i64 m2)).cell? ⟨g, y * 3, none⟩ = some (.int .i64 m0) := by
    rw [World.cell?_setCell_other _ _ _ _ (by simp), World.cell?_setCell_other _ _ _ _ (by simp)]
    exact World.cell?_setCell_same _ _ _ hv0
  refine ⟨by simpa [World.setCell] using h.lt, fun i => by rw [World.frozen?_setCell, World.frozen?_setCell, World.frozen?_setCell]; exact h.fz i, fun i hi => ?_, fun x hx => ?_⟩
  · by_cases h1 : i = y * 3
    · subst h1; exact ⟨_, e0⟩
    · by_cases h2 : i = y * 3 + 1
      · subst h2; exact ⟨_, e1⟩
      · by_cases h3 : i = y * 3 + 2
        · subst h3; exact ⟨_, e2⟩
        · rw [far i h1 h2 h3]; exact h.all i hi
  · by_cases hxk : x = k
    · subst hxk
      rw [hy, hm0, hm1, hm2]
      exact ⟨e0, e1, e2⟩
    · have hne : toN to x ≠ y := fun e => hxk (hR.inj (by omega) hk (by rw [e, hy]))
      rw [far _ (by omega) (by omega) (by omega), far _ (by omega) (by omega) (by omega), far _ (by omega) (by omega) (by omega)]
      exact h.done x (by omega)
theorem RM.marks {w : World} {g n : Nat} {to : List Int} {P : List Wg} (h : RM w g n to P n) (hG : Good n P) (hR : Renum n to) : MarksR w g n (renP to n P) := by
  refine ⟨h.lt, fun y hy => ?_⟩
  obtain ⟨x, hx, rfl⟩ := hR.onto hy
  rw [markN_ren hG hR hx, markN_ren hG hR hx, markN_ren hG hR hx]
  exact h.done x hx
theorem sorted_renum {n : Nat} {to : List Int} (hl : to.length = n) : setB (n : Int) (to.mergeSort fun x y => decide (x ≤ y)) = decide (Renum n to) := by
  have hs : (to.mergeSort fun x y => decide (x ≤ y)).Pairwise (· ≤ ·) := by
    have := List.pairwise_mergeSort (le := fun x y : Int => decide (x ≤ y)) (fun a b c h1 h2 => by simp at *; omega) (fun a b => by simp; omega) to
    exact this.imp fun h => by simpa using h
  rw [Bool.eq_iff_iff, decide_eq_true_iff, renum_iff hl (List.mergeSort_perm _ _) hs]
  exact ⟨fun h => ⟨hl, h⟩, fun h => h.all⟩
set_option maxRecDepth 100000 in
set_option maxHeartbeats 4000000 in
theorem rename_ok (lo n : Nat) (A : Option Addr) (m c : Nat) (P : List Wg) (B : Option Addr) (d : Nat) (to : List Int) (w : World) (hR : Plan lo w A P) (hm : P.length = m) (hG : Good n P) (hJ : Ints w B to) (hN : Renum n to) :
    Calls Try.prog 74 #[.int .i64 (n : Int), .slice A m c, .slice B n d] w fun e w' => ∃ b, e = .returned (.tuple #[.slice (some ⟨b, 0, none⟩) m m, .int .i64 0]) ∧ Bel w w' ∧ Plan w.heap.size w' (some ⟨b, 0, none⟩) (renP to n P) := by
  have hn13 := hG.le
  have hn1 := hG.pos
  have hm3 : m ≤ 3 := by rw [← hm]; exact hG.few
  have Hm := Lib.hid hm; have HGo := Lib.hid hG; have HE := Lib.hid hG.err; have HN := Lib.hid hN
  have HS := Lib.hid (show setB (n : Int) (to.mergeSort fun x y => decide (x ≤ y)) = true by rw [sorted_renum hN.len]; exact decide_eq_true hN)
  have HML := Lib.hid (show (to.mergeSort fun x y => decide (x ≤ y)).length = n by rw [List.length_mergeSort]; exact hN.len)
  have hne : to ≠ [] := fun e => by have := hN.len; rw [e] at this; simp at this; omega
  have hIS : ∀ w', Bel w w' → IntsS (· < w'.heap.size) w' B to := fun w' h => (hJ.bel h).toS hne
  have HIS := Lib.hid hIS
  have hnn : ((n : Int) != (n : Int)) = false := by simp
  have hmk := make_marks n hn13
  have hnb : B.isSome = true := by
    rcases hJ with h | ⟨b, o, rfl, _⟩
    · exact absurd h hne
    · rfl
  clear hm hG hN hIS hne
  go_enter Try.func74, Try.ntmps74
  go_wp2_with fail
  refine (validate_any lo n A m c P _ hR Hm.out).mono ?_
  rintro e w1 ⟨rfl, hb1⟩
  rw [HE.out]
  go_wp2_with (first | (go_at_call 108; refine (values_in B n d _).mono ?_; rintro e w2 ⟨rfl, rfl⟩) | (go_at_call 107; refine (sorted_any w1.heap.size B n d to _ HN.out.len hn1 (by omega) (by simp) (by go_simp) (HIS.out _ (hb1.alloc _))).mono ?_; rintro e w3 ⟨v3, rfl, hO3, hb3⟩; obtain ⟨A3, n3, c3, rfl, hn3, hI3⟩ := hO3.form; have HN3 := Lib.hid hn3; clear hn3 hO3) | (go_at_call 106; refine (isSet_any A3 n3 c3 _ (n : Int) _ hI3 HN3.out.symm (by rw [HN3.out, HML.out]; unfold maxLen; omega)).mono ?_; rintro e w4 ⟨rfl, rfl⟩; rw [HS.out]))
  have hb13 : Bel w w3 := (hb1.alloc _).trans hb3
  have hs3 := hb13.size
  have hrm0 : RM (w3.alloc (.cells (madeCells #[.int .i64 0, .int .i64 0, .int .i64 0] (n * 3)) 78)) w3.heap.size n to P 0 :=
    ⟨by simp, fun i => by simp, fun i hi => ⟨_, by rw [World.cell?_alloc_new]; exact madeCells_at n i hi⟩, fun x hx => by omega⟩
  have HRM := Lib.hid hrm0
  clear hrm0 hb3 hI3 hb1
  go_wp2_with fail
  refine (marksOf_any lo n A m c P _ (hR.bel (hb13.alloc _)) Hm.out HGo.out).mono ?_
  rintro e w5 ⟨gm, rfl, hgm, hb5, hM⟩
  have hb15 : Bel w w5 := (hb13.alloc _).trans hb5
  have HR5 := Lib.hid (HRM.out.bel hb5)
  have HM5 := Lib.hid hM
  have hgl := hM.lt
  have hs5 := hb5.size
  simp at hs5 hgm
  clear hM HRM hb5 hmk
  go_wp2
  go_loopw [10, 11, 36] (fun _ _ i wr => ∃ k : Nat, k ≤ n ∧ i = .int .i64 k ∧ Bel w wr ∧ w5.heap.size ≤ wr.heap.size ∧ Marks wr gm n P ∧ RM wr w3.heap.size n to P k) (fun _ _ i _ => n - (intOf i).toNat)
  case atStart => exact ⟨0, Nat.zero_le _, rfl, hb15, Nat.le_refl _, HM5.out, HR5.out⟩
  case round =>
    clear HM5 HR5 hb15
    obtain ⟨k, hk, rfl, hb, hsz, hK, hRM⟩ := hrel
    by_cases hlt : k < n
    · obtain ⟨c0, c1, c2⟩ := hK.at_ hlt
      obtain ⟨b2, o2, z, rfl, hbl2, hg2, hc2⟩ := (hJ.bel hb).at_ (k := k) (by rw [HN.out.len]; exact hlt)
      obtain ⟨hat, hyn⟩ := HN.out.at_ hlt
      rw [hg2] at hat
      obtain ⟨y, hy⟩ : ∃ y, y = toN to k := ⟨_, rfl⟩
      rw [← hy] at hyn hat
      obtain rfl : z = (y : Int) := Option.some.inj hat
      have hki : (k : Int) < (n : Int) := by omega
      have hk0 : (0 : Int) ≤ (k : Int) := by omega
      have hyi : (y : Int) < (n : Int) := by omega
      have hy0 : (0 : Int) ≤ (y : Int) := by omega
      have HK := Lib.hid hK; have HRM := Lib.hid hRM; have HY := Lib.hid hy.symm
      obtain ⟨v0, hv0⟩ := hRM.all (y * 3) (by omega)
      obtain ⟨v1, hv1⟩ := hRM.all (y * 3 + 1) (by omega)
      obtain ⟨v2, hv2⟩ := hRM.all (y * 3 + 2) (by omega)
      have z0 := hRM.fz (y * 3); have z1 := hRM.fz (y * 3 + 1); have z2 := hRM.fz (y * 3 + 2)
      have hrl := hRM.lt
      clear hat hg2 hy hK hRM
      go_wp2
      go_region
      go_wp2
      go_roundw
      case rel =>
        refine ⟨k + 1, by omega, by go_num, ?_, ?_, ?_, ?_⟩
        · exact ((((hb.setCell (p := ⟨w3.heap.size, y * 3, none⟩) hs3 _).setCell (p := ⟨w3.heap.size, y * 3 + 1, none⟩) hs3 _).setCell (p := ⟨w3.heap.size, y * 3 + 2, none⟩) hs3 _).alloc _).drew
        · simp [World.setCell]
          omega
        · exact Row.bel (((HK.out.far (p := ⟨w3.heap.size, y * 3, none⟩) (by simp; omega) _).far (p := ⟨w3.heap.size, y * 3 + 1, none⟩) (by simp; omega) _).far (p := ⟨w3.heap.size, y * 3 + 2, none⟩) (by simp; omega) _) ((Bel.refl _).alloc _).drew
        · exact (HRM.out.step HN.out hlt HY.out).bel ((Bel.refl _).alloc _).drew
      case measure => simp [intOf]; omega
    · obtain rfl : n = k := by omega
      have HMR := Lib.hid (hRM.marks HGo.out HN.out)
      clear hK hRM
      go_wp2_with fail
      refine (planOf_any w3.heap.size n m n (renP to n P) _ HMR.out (HGo.out.ren HN.out) (by rw [renP_length]; exact Hm.out)).mono ?_
      rintro e w6 ⟨b, rfl, hb6, hP6⟩
      have HB := Lib.hid (hb.trans hb6)
      have HP := Lib.hid (hP6.low (lo' := w.heap.size) hb.size)
      clear hP6
      go_wp2
      exact bodyPost_ret (v := .tuple #[.slice (some ⟨b, 0, none⟩) m m, .int .i64 0]) (by simp [results, Try.results74, go_sem]) rfl ⟨b, rfl, HB.out, HP.out⟩
set_option maxRecDepth 100000 in
set_option maxHeartbeats 2000000 in
theorem rename_err (lo : Nat) (n : Int) (A : Option Addr) (m c : Nat) (P : List Wg) (B : Option Addr) (q d : Nat) (to : List Int) (w : World) (hR : Plan lo w A P) (hm : P.length = m) (hJ : Ints w B to) (hq : to.length = q) (hmax : q ≤ maxLen) (hE : errR n P to ≠ 0) :
    Calls Try.prog 74 #[.int .i64 n, .slice A m c, .slice B q d] w fun e w' => e = .returned (.tuple #[.slice none 0 0, .int .i64 (errR n P to)]) ∧ Bel w w' := by
  have Hm := Lib.hid hm; have Hq := Lib.hid hq
  have hmaxi : (q : Int) ≤ 9223372036854775807 := by unfold maxLen at hmax; omega
  by_cases h0 : errV n P = 0
  · obtain ⟨k, rfl, hG⟩ := errV_good h0
    have hK : errR (k : Int) P to = 1 := by
      unfold errR at hE ⊢
      rw [if_pos h0] at hE ⊢
      split at hE
      · exact absurd rfl hE
      · rename_i h
        rw [if_neg h]
    have HK := Lib.hid hK
    have HE := Lib.hid h0
    have hn13 := hG.le
    have hn1 := hG.pos
    have hnr : ¬ Renum k to := fun h => by
      unfold errR at hE
      rw [if_pos h0, if_pos (by simpa using h)] at hE
      exact hE rfl
    rw [hK]
    by_cases hqk : q = k
    · subst hqk
      have HS := Lib.hid (show setB (q : Int) (to.mergeSort fun x y => decide (x ≤ y)) = false by rw [sorted_renum hq]; exact decide_eq_false hnr)
      have HML := Lib.hid (show (to.mergeSort fun x y => decide (x ≤ y)).length = q by rw [List.length_mergeSort]; exact hq)
      have hne : to ≠ [] := fun e => by rw [e] at hq; simp at hq; omega
      have HIS := Lib.hid (fun w' (h : Bel w w') => (hJ.bel h).toS hne)
      have hnn : ((q : Int) != (q : Int)) = false := by simp
      clear hm hq hG hnr hne hE hK h0
      go_enter Try.func74, Try.ntmps74
      go_wp2_with fail
      refine (validate_any lo _ A m c P _ hR Hm.out).mono ?_
      rintro e w1 ⟨rfl, hb1⟩
      rw [HE.out]
      go_wp2_with (first | (go_at_call 108; refine (values_in B q d _).mono ?_; rintro e w2 ⟨rfl, rfl⟩) | (go_at_call 107; refine (sorted_any w1.heap.size B q d to _ Hq.out hn1 (by omega) (by simp) (by go_simp) (HIS.out _ (hb1.alloc _))).mono ?_; rintro e w3 ⟨v3, rfl, hO3, hb3⟩; obtain ⟨A3, n3, c3, rfl, hn3, hI3⟩ := hO3.form; have HN3 := Lib.hid hn3; clear hn3 hO3) | (go_at_call 106; refine (isSet_any A3 n3 c3 _ (q : Int) _ hI3 HN3.out.symm (by rw [HN3.out, HML.out]; unfold maxLen; omega)).mono ?_; rintro e w4 ⟨rfl, rfl⟩; rw [HS.out]))
      have HB := Lib.hid ((hb1.alloc _).trans hb3)
      exact bodyPost_ret (v := .tuple #[.slice none 0 0, .int .i64 1]) (by simp [results, Try.results74, go_sem]) rfl ⟨rfl, HB.out⟩
    · have hnn : ((q : Int) != (k : Int)) = true := by simp; omega
      have hnn' : ¬ (q : Int) = (k : Int) := by omega
      clear hm hq hG hnr hE hK h0
      go_enter Try.func74, Try.ntmps74
      go_wp2_with fail
      refine (validate_any lo _ A m c P _ hR Hm.out).mono ?_
      rintro e w1 ⟨rfl, hb1⟩
      rw [HE.out]
      go_wp2
      exact bodyPost_ret (v := .tuple #[.slice none 0 0, .int .i64 1]) (by simp [results, Try.results74, go_sem]) rfl ⟨rfl, hb1⟩
  · have hK : errR n P to = errV n P := by unfold errR; rw [if_neg h0]
    rw [hK]
    have hE' : (errV n P != 0) = true := by simpa using h0
    clear hK hE
    generalize hv : errV n P = v at *
    have HV := Lib.hid hv
    clear hv hm hq
    go_enter Try.func74, Try.ntmps74
    go_wp2_with fail
    refine (validate_any lo n A m c P _ hR Hm.out).mono ?_
    rintro e w1 ⟨rfl, hb1⟩
    rw [HV.out]
    go_wp2
    exact bodyPost_ret (v := .tuple #[.slice none 0 0, .int .i64 v]) (by simp [results, Try.results74, go_sem]) rfl ⟨rfl, hb1⟩
end Go.Proofs.Ytmckoehkekkldaa
