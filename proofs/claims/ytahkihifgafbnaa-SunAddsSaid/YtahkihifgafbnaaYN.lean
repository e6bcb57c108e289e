/- Switch of the document; the errors of both. -/
import Derived.Test.YtahkihifgafbnaaYM
namespace Go.Proofs.Ytahkihifgafbnaa
open Go.RowKit

/-- The errors of Switch. -/
def errX (T : List (List Int)) (a b : Int) : Int := if errN T [a, b] = 0 then (if a = b then 1 else 0) else errN T [a, b]
set_option maxRecDepth 100000 in
set_option maxHeartbeats 8000000 in
theorem rswitch_ok (lo : Nat) (A : Option Addr) (n c : Nat) (T : List (List Int)) (a b : Nat) (w : World) (hR : Tab lo w A T) (hn : T.length = n) (hE : errT T = 0) (ha : a < n) (hb : b < n) (hab : a ≠ b) :
    Calls Try.prog 70 #[.slice A n c, .int .i64 (a : Int), .int .i64 (b : Int)] w fun e w' => ∃ v base, e = .returned (.tuple #[v, .int .i64 0]) ∧ w.heap.size ≤ base ∧ Bel w w' ∧ SqG base w' v n n (fun x y => swF (ent T) a b x y) := by
  obtain ⟨⟨h1, h7⟩, hrw, -⟩ := errT_zero hE
  rw [hn] at h1 h7 hrw
  have hsq := rowsB_square hn hrw
  obtain ⟨g, o, rfl, hgl, hents⟩ := ents_at (hR.toN hsq h1) hsq
  have Ents : Hid (∀ w', Bel w w' → ∀ a b, a < n → b < n → ∃ b' o' c', b' < w.heap.size ∧ w'.cell? ⟨g, o + a, none⟩ = some (.slice (some ⟨b', o', none⟩) n c') ∧ w'.cell? ⟨b', o' + b, none⟩ = some (.int .i64 (ent T a b))) := fun w' hw a b ha hb => by
    obtain ⟨b', o', c', hb', k1, k2⟩ := hents a b ha hb
    exact ⟨b', o', c', hb', by rw [hw.use.1 _ _ hgl]; exact k1, by rw [hw.use.1 _ _ hb']; exact k2⟩
  have HE := Lib.hid hE; have Hn := Lib.hid hn; have HSQ := Lib.hid hsq
  have hai : (a : Int) < (n : Int) := by omega
  have ha0 : (0 : Int) ≤ (a : Int) := by omega
  have hbi : (b : Int) < (n : Int) := by omega
  have hb0 : (0 : Int) ≤ (b : Int) := by omega
  have habi : ¬ (a : Int) = (b : Int) := by omega
  have habe : ((a : Int) == (b : Int)) = false := by simpa using habi
  clear hents hE hn hrw hsq habi
  go_enter Try.func70, Try.ntmps70
  go_wp2_with fail
  refine (rvalidate_any lo _ n c T _ hR Hn.out).mono ?_
  rintro e w1 ⟨rfl, hb1⟩
  rw [HE.out]
  have hs1 := hb1.size
  go_wp2_with (first | (go_at_call 83; refine (within_yes _ _ _ _ ⟨by omega, by omega⟩).mono ?_; rintro e w3 ⟨rfl, rfl⟩) | (go_at_call 67; refine (rCopy_any _ n c T _ ((hR.low (Nat.zero_le _)).bel hb1) Hn.out (by omega) (fun r hr => by have := HSQ.out.2 r hr; omega)).mono ?_; rintro e w2 ⟨v2, rfl, hb2', bs, cs, hG2⟩))
  have hG := hG2.congr (ls' := fun _ => n) (f' := ent T) (fun i hi => by obtain ⟨r, q1, q2, -⟩ := HSQ.out.at_ hi hi; unfold lenT; rw [q1]; exact q2.symm) (fun _ _ _ _ => rfl)
  obtain ⟨g9, c9, rfl⟩ := hG.form (by omega)
  have hb12 := hb1.trans hb2'
  clear hG2
  obtain ⟨b3, o3, c3, f0, f1, f2⟩ := Ents.out w2 hb12 b a hb ha
  obtain ⟨b4, o4, c4, f5, f3, f4⟩ := Ents.out w2 hb12 a b ha hb
  have q1 := hG.cell (i := a) ha
  have q2 := hG.cell (i := b) hb
  obtain ⟨m1, hm1, hr1⟩ := hG.row a ha
  obtain ⟨m2, hm2, hr2⟩ := hG.row b hb
  have q3 := hr1.cells b hb
  have q4 := hr2.cells a ha
  have q5 := hr1.fz b
  have q6 := hr2.fz a
  have q7 := hG.lo a ha
  have q8 := hG.lo b hb
  have hne : ¬ bs a = bs b := fun e => hab (hG.inj a b ha hb e)
  have hn1 : ¬ g9 = bs a := fun e => hG.ne a ha (by rw [← e]; rfl)
  have hn2 : ¬ g = bs a := by omega
  have hn3 : ¬ b4 = bs a := by omega
  have hP := (hG.put (i := a) (j := b) ha hb (ent T b a)).put (i := b) (j := a) hb ha (ent T a b)
  have HP := Lib.hid (hP.congr (f' := fun x y => swF (ent T) a b x y) (ls' := fun _ => n) (fun _ _ => rfl) (fun x y hx hy => by
    unfold swF
    by_cases e1 : x = b ∧ y = a
    · rw [if_pos e1, if_pos (.inr e1), e1.1, e1.2]
    · rw [if_neg e1]
      by_cases e2 : x = a ∧ y = b
      · rw [if_pos e2, if_pos (.inl e2), e2.1, e2.2]
      · rw [if_neg e2, if_neg (fun e => e.elim e2 e1)]))
  have l1 := hr1.lt
  have l2 := hr2.lt
  obtain ⟨ba, hba⟩ : ∃ ba, ba = bs a := ⟨_, rfl⟩
  obtain ⟨bb, hbb⟩ : ∃ bb, bb = bs b := ⟨_, rfl⟩
  rw [← hba] at q1 q3 q5 q7 hne HP l1 hn1 hn2 hn3
  rw [← hbb] at q2 q4 q6 q8 hne HP l2
  obtain ⟨x, hx⟩ : ∃ x, x = ent T b a := ⟨_, rfl⟩
  obtain ⟨y, hy⟩ : ∃ y, y = ent T a b := ⟨_, rfl⟩
  rw [← hx] at f2 HP q4
  rw [← hy] at f4 HP q3
  clear hP hG hr1 hr2 hba hbb hx hy hm1 hm2
  go_wp2
  go_region
  go_wp2
  go_region
  go_wp2
  refine bodyPost_ret (v := .tuple #[.slice (some ⟨g9, 0, none⟩) n c9, .int .i64 0]) (by simp [results, Try.results70, go_sem]) rfl ⟨_, w1.heap.size, rfl, hs1, ?_, _, _, HP.out.bel (by (repeat (first | exact Bel.refl _ | assumption | refine Bel.drew ?_ | refine Bel.drewN ?_ _ | refine Bel.alloc ?_ _ | refine Bel.setCell ?_ (by first | omega | (simp; done) | (simp; omega) | (simp at *; omega)) _ | refine Bel.trans ?_ (by assumption))))⟩
  refine hb1.trans ?_
  exact ((hb2'.setCell q7 _).setCell q8 _).trans (by (repeat (first | exact Bel.refl _ | assumption | refine Bel.drew ?_ | refine Bel.drewN ?_ _ | refine Bel.alloc ?_ _ | refine Bel.setCell ?_ (by first | omega | (simp; done) | (simp; omega) | (simp at *; omega)) _ | refine Bel.trans ?_ (by assumption))))
theorem within_any (v lo hi : Int) (w : World) : Calls Try.prog 83 #[.int .i64 v, .int .i64 lo, .int .i64 hi] w fun e w' => e = .returned (.bool (decide (lo ≤ v ∧ v ≤ hi))) ∧ w = w' := by
  by_cases h : lo ≤ v ∧ v ≤ hi
  · rw [decide_eq_true h]
    exact within_yes v lo hi w h
  · rw [decide_eq_false h]
    exact within_no v lo hi w h
theorem errX_parts {T : List (List Int)} {a b : Int} (h : errX T a b = 0) : errT T = 0 ∧ (0 ≤ a ∧ a < (T.length : Int)) ∧ (0 ≤ b ∧ b < (T.length : Int)) ∧ a ≠ b := by
  unfold errX at h
  rw [errN_two] at h
  by_cases h1 : errT T = 0
  · rw [if_pos h1] at h
    by_cases h2 : (0 ≤ a ∧ a < (T.length : Int)) ∧ 0 ≤ b ∧ b < (T.length : Int)
    · rw [if_pos h2, if_pos rfl] at h
      by_cases h3 : a = b
      · rw [if_pos h3] at h
        cases h
      · exact ⟨h1, h2.1, h2.2, h3⟩
    · rw [if_neg h2, if_neg (by decide)] at h
      cases h
  · rw [if_neg h1, if_neg h1] at h
    exact absurd h h1
set_option maxRecDepth 100000 in
set_option maxHeartbeats 2000000 in
theorem switch_err (lo : Nat) (A : Option Addr) (n c : Nat) (T : List (List Int)) (a b : Int) (w : World) (hR : Tab lo w A T) (hn : T.length = n) (hnx : n ≤ maxLen) (hV : errX T a b ≠ 0) :
    Calls Try.prog 71 #[.slice A n c, .int .i64 a, .int .i64 b] w fun e w' => e = .returned (.tuple #[.slice none 0 0, .int .i64 (errX T a b)]) ∧ Bel w w' := by
  have Hn := Lib.hid hn
  have hm2 := Lib.hid (show (2 : Nat) ≤ maxLen by unfold maxLen; omega)
  by_cases h0 : errN T [a, b] = 0
  · have HX : errX T a b = if a = b then 1 else 0 := by unfold errX; rw [if_pos h0]
    have hab : a = b := by
      by_cases e : a = b
      · exact e
      · rw [HX, if_neg e] at hV; exact absurd rfl hV
    rw [if_pos hab] at HX
    rw [HX]
    have H0 := Lib.hid h0
    have habe : (a == b) = true := by simpa using hab
    clear hV hn h0 HX hab
    go_enter Try.func71, Try.ntmps71
    go_wp2_with fail
    refine (validateStrips_any lo A n c T (some ⟨w.heap.size, 0, none⟩) 2 2 [a, b] _ (hR.bel ((Bel.refl w).alloc _)) Hn.out hnx (ints2 w _ _) rfl hm2.out).mono ?_
    rintro e w1 ⟨rfl, hb1⟩
    rw [H0.out]
    have hb2 : Bel w w1 := ((Bel.refl w).alloc _).trans hb1
    go_wp2
    exact bodyPost_ret (v := .tuple #[.slice none 0 0, .int .i64 1]) (by simp [results, Try.results71, go_sem]) rfl ⟨rfl, hb2⟩
  · have HX : errX T a b = errN T [a, b] := by unfold errX; rw [if_neg h0]
    rw [HX]
    have hz' : (errN T [a, b] != 0) = true := by simpa using h0
    clear hV hn h0 HX
    generalize hv : errN T [a, b] = v at *
    have HVV := Lib.hid hv
    clear hv
    go_enter Try.func71, Try.ntmps71
    go_wp2_with fail
    refine (validateStrips_any lo A n c T (some ⟨w.heap.size, 0, none⟩) 2 2 [a, b] _ (hR.bel ((Bel.refl w).alloc _)) Hn.out hnx (ints2 w _ _) rfl hm2.out).mono ?_
    rintro e w1 ⟨rfl, hb1⟩
    rw [HVV.out]
    have hb2 : Bel w w1 := ((Bel.refl w).alloc _).trans hb1
    go_wp2
    exact bodyPost_ret (v := .tuple #[.slice none 0 0, .int .i64 v]) (by simp [results, Try.results71, go_sem]) rfl ⟨rfl, hb2⟩
set_option maxRecDepth 100000 in
set_option maxHeartbeats 2000000 in
theorem rswitch_err (lo : Nat) (A : Option Addr) (n c : Nat) (T : List (List Int)) (a b : Int) (w : World) (hR : Tab lo w A T) (hn : T.length = n) (hV : errX T a b ≠ 0) :
    Calls Try.prog 70 #[.slice A n c, .int .i64 a, .int .i64 b] w fun e w' => e = .returned (.tuple #[.slice none 0 0, .int .i64 (errX T a b)]) ∧ Bel w w' := by
  have Hn := Lib.hid hn
  by_cases hz : errT T = 0
  · obtain ⟨⟨h1, h7⟩, -, -⟩ := errT_zero hz
    rw [hn] at h1 h7
    have HZ := Lib.hid hz
    have hne : errN T [a, b] = if (0 ≤ a ∧ a < (n : Int)) ∧ 0 ≤ b ∧ b < (n : Int) then 0 else 4 := by rw [errN_two, if_pos hz, hn]
    by_cases ha : 0 ≤ a ∧ a < (n : Int)
    · by_cases hb : 0 ≤ b ∧ b < (n : Int)
      · rw [if_pos ⟨ha, hb⟩] at hne
        have HX : errX T a b = if a = b then 1 else 0 := by unfold errX; rw [if_pos hne]
        have hab : a = b := by
          by_cases e : a = b
          · exact e
          · rw [HX, if_neg e] at hV; exact absurd rfl hV
        rw [if_pos hab] at HX
        rw [HX]
        have habe : (a == b) = true := by simpa using hab
        have HA := Lib.hid (decide_eq_true (show 0 ≤ a ∧ a ≤ (n : Int) - 1 by omega))
        have HB := Lib.hid (decide_eq_true (show 0 ≤ b ∧ b ≤ (n : Int) - 1 by omega))
        clear hV hn hz HX hab hne ha hb
        go_enter Try.func70, Try.ntmps70
        go_wp2_with fail
        refine (rvalidate_any lo A n c T _ hR Hn.out).mono ?_
        rintro e w1 ⟨rfl, hb1⟩
        rw [HZ.out]
        go_wp2_with (first | (go_at_call 83; refine (within_any _ _ _ _).mono ?_; rintro e w3 ⟨rfl, rfl⟩; first | rw [HA.out] | rw [HB.out]))
        exact bodyPost_ret (v := .tuple #[.slice none 0 0, .int .i64 1]) (by simp [results, Try.results70, go_sem]) rfl ⟨rfl, hb1⟩
      · rw [if_neg (fun h => hb h.2)] at hne
        have HX : errX T a b = 4 := by unfold errX; rw [hne, if_neg (by decide)]
        rw [HX]
        have HA := Lib.hid (decide_eq_true (show 0 ≤ a ∧ a ≤ (n : Int) - 1 by omega))
        have HB := Lib.hid (decide_eq_false (show ¬ (0 ≤ b ∧ b ≤ (n : Int) - 1) by omega))
        clear hV hn hz HX hne ha hb
        go_enter Try.func70, Try.ntmps70
        go_wp2_with fail
        refine (rvalidate_any lo A n c T _ hR Hn.out).mono ?_
        rintro e w1 ⟨rfl, hb1⟩
        rw [HZ.out]
        go_wp2_with (first | (go_at_call 83; refine (within_any _ _ _ _).mono ?_; rintro e w3 ⟨rfl, rfl⟩; first | rw [HA.out] | rw [HB.out]))
        exact bodyPost_ret (v := .tuple #[.slice none 0 0, .int .i64 4]) (by simp [results, Try.results70, go_sem]) rfl ⟨rfl, hb1⟩
    · rw [if_neg (fun h => ha h.1)] at hne
      have HX : errX T a b = 4 := by unfold errX; rw [hne, if_neg (by decide)]
      rw [HX]
      have HA := Lib.hid (decide_eq_false (show ¬ (0 ≤ a ∧ a ≤ (n : Int) - 1) by omega))
      clear hV hn hz HX hne ha
      go_enter Try.func70, Try.ntmps70
      go_wp2_with fail
      refine (rvalidate_any lo A n c T _ hR Hn.out).mono ?_
      rintro e w1 ⟨rfl, hb1⟩
      rw [HZ.out]
      go_wp2_with (first | (go_at_call 83; refine (within_any _ _ _ _).mono ?_; rintro e w3 ⟨rfl, rfl⟩; rw [HA.out]))
      exact bodyPost_ret (v := .tuple #[.slice none 0 0, .int .i64 4]) (by simp [results, Try.results70, go_sem]) rfl ⟨rfl, hb1⟩
  · have HX : errX T a b = errT T := by unfold errX; rw [errN_two, if_neg hz, if_neg hz]
    rw [HX]
    have hE' : (errT T != 0) = true := by simpa using hz
    clear hn hV hz HX
    generalize hv : errT T = v at *
    have HV := Lib.hid hv
    clear hv
    go_enter Try.func70, Try.ntmps70
    go_wp2_with fail
    refine (rvalidate_any lo A n c T _ hR Hn.out).mono ?_
    rintro e w1 ⟨rfl, hb1⟩
    rw [HV.out]
    go_wp2
    exact bodyPost_ret (v := .tuple #[.slice none 0 0, .int .i64 v]) (by simp [results, Try.results70, go_sem]) rfl ⟨rfl, hb1⟩
end Go.Proofs.Ytahkihifgafbnaa
