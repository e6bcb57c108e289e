/- FromMarks of the program, all that it refuses. -/
import Derived.Test.YtmckoehkekkldaaAQ
namespace Go.Proofs.Ytmckoehkekkldaa
open Go.RowKit

theorem ent_bd {T : List (List Int)} (h : ∀ l ∈ T, sidesB l = true) (j x : Nat) : -1 ≤ entT T j x ∧ entT T j x ≤ 1 := by
  unfold entT
  by_cases hx : x < T.length
  · have e : T[x]? = some T[x] := List.getElem?_eq_getElem hx
    rw [rowT_at e]
    have hs := h _ (List.mem_of_getElem? e)
    by_cases hj : j < T[x].length
    · have e2 : T[x][j]? = some T[x][j] := List.getElem?_eq_getElem hj
      rw [getD_of e2]
      simpa [sideOk] using List.all_eq_true.1 hs _ (List.mem_of_getElem? e2)
    · rw [List.getD_eq_getElem?_getD, List.getElem?_eq_none (by omega)]
      simp
  · rw [rowT_none hx]
    simp
theorem sd_plan {T : List (List Int)} (h : ∀ l ∈ T, sidesB l = true) {j x : Nat} (hx : x < T.length) : sd (x : Int) (lotsF (fun x => entT T j x == 1) T.length, lotsF (fun x => entT T j x == -1) T.length) = entT T j x := by
  unfold sd
  rw [lotsF_at _ hx, lotsF_at _ hx]
  have := ent_bd h j x
  rcases (by omega : entT T j x = -1 ∨ entT T j x = 0 ∨ entT T j x = 1) with e | e | e <;> simp [e]
theorem rows_marks {T : List (List Int)} {q : Nat} (h : ∀ l ∈ T, l.length = q ∧ sidesB l = true) : marksT (planT T q) T.length = T := by
  apply List.ext_getElem?
  intro x
  by_cases hx : x < T.length
  · rw [marksT_at _ hx]
    have e : T[x]? = some T[x] := List.getElem?_eq_getElem hx
    have hl := (h _ (List.mem_of_getElem? e)).1
    rw [e]
    congr 1
    unfold markL planT
    rw [List.map_map]
    apply List.ext_getElem (by simp [hl])
    intro j h1 h2
    simp only [List.getElem_map, List.getElem_range, Function.comp]
    rw [sd_plan (fun l hl => (h l hl).2) hx]
    unfold entT
    rw [rowT_at e, getD_of (List.getElem?_eq_getElem h2)]
  · rw [List.getElem?_eq_none (by rw [marksT_length]; omega), List.getElem?_eq_none (by omega)]
theorem planT_at {T : List (List Int)} {q j : Nat} (hj : j < q) : (planT T q)[j]? = some (lotsF (fun x => entT T j x == 1) T.length, lotsF (fun x => entT T j x == -1) T.length) := by simp [planT, hj]
theorem sumT_plan {T : List (List Int)} {q : Nat} (h : ∀ l ∈ T, l.length = q ∧ sidesB l = true) (j : Nat) : ∀ n, n ≤ T.length → sumT (planT T q) j n = if j < q then colS T j n else 0
  | 0, _ => by simp [sumT, colS]
  | n + 1, hn => by
    rw [sumT, sumT_plan h j n (by omega)]
    by_cases hj : j < q
    · rw [if_pos hj, if_pos hj, colS, markN_at (planT_at hj), sd_plan (fun l hl => (h l hl).2) (by omega)]
    · rw [if_neg hj, if_neg hj, markN_out (by rw [planT_length]; omega)]
      rfl
set_option maxRecDepth 100000 in
set_option maxHeartbeats 2000000 in
theorem fromMarks_err (lo : Nat) (A : Option Addr) (n c : Nat) (T : List (List Int)) (w : World) (hT : Tab lo w A T) (hn : T.length = n) (hmax : n ≤ maxLen) (hE : errF T ≠ 0) :
    Calls Try.prog 53 #[.slice A n c] w fun e w' => e = .returned (.tuple #[.slice none 0 0, .int .i64 (errF T)]) ∧ Bel w w' := by
  have Hn := Lib.hid hn
  have hni : (n : Int) ≤ 9223372036854775807 := by unfold maxLen at hmax; omega
  by_cases h1 : 1 ≤ (n : Int) ∧ (n : Int) ≤ 13
  · by_cases h2 : T.any longB = true
    · have HE := Lib.hid (show errF T = 3 by
        unfold errF
        rw [if_neg]
        intro hh
        simp only [Bool.and_eq_true, Bool.not_eq_true'] at hh
        exact absurd h2 (by rw [show (T.any longB) = (T.any fun l => decide (3 < l.length)) from rfl, hh.2]; simp))
      rw [HE.out]
      have hd := decide_eq_true h1
      have H2 := Lib.hid h2
      clear hE hn h1 h2
      go_enter Try.func53, Try.ntmps53
      go_wp2_with fail
      refine (areLots_any _ _).mono ?_
      rintro e w1 ⟨rfl, rfl⟩
      rw [hd]
      go_wp2_with fail
      refine (large_any lo _ n c T _ hT Hn.out hmax).mono ?_
      rintro e w1 ⟨rfl, rfl⟩
      rw [H2.out]
      go_wp2
      exact bodyPost_ret (v := .tuple #[.slice none 0 0, .int .i64 3]) (by simp [results, Try.results53, go_sem]) rfl ⟨rfl, Bel.refl _⟩
    · have h2' : T.any longB = false := by simpa using h2
      have hlong : ∀ l ∈ T, l.length ≤ 3 := fun l hl => by
        have := List.any_eq_false.1 h2' l hl
        unfold longB at this
        simpa using this
      have e0 : T[0]? = some (T[0]'(by omega)) := List.getElem?_eq_getElem (by omega)
      have hw3 : wide T ≤ 3 := by unfold wide; rw [rowT_at e0]; exact hlong _ (List.mem_of_getElem? e0)
      have hfirst : (decide (1 ≤ T.length ∧ T.length ≤ 13) && !T.any fun l => decide (3 < l.length)) = true := by
        rw [show (T.any fun l => decide (3 < l.length)) = T.any longB from rfl, h2', decide_eq_true (by omega)]
        rfl
      by_cases h3 : T.any (noneB (wide T)) = true
      · have HE := Lib.hid (show errF T = 1 by
          unfold errF
          rw [if_pos hfirst, if_pos]
          exact h3)
        rw [HE.out]
        have hd := decide_eq_true h1
        have H2 := Lib.hid h2'; have H3 := Lib.hid h3; have HW := Lib.hid (show wide T = (T[0]'(by omega)).length by unfold wide; rw [rowT_at e0])
        obtain ⟨b0, o0, ns0, A0, n0, c0, rfl, hbl0, hg0, q0, hI0, hl0, hx0⟩ := hT.at_ (k := 0) (by omega)
        rw [Nat.add_zero] at q0
        have hn0 : n0 = wide T := by
          rw [← hl0, HW.out]
          rw [e0] at hg0
          injection hg0 with hg0
          rw [hg0]
        have HN0 := Lib.hid hn0
        have hn03 : n0 ≤ 3 := by omega
        have hni0 : (0 : Int) < (n : Int) := by omega
        clear hE hn h1 h2 h2' h3 hn0 hg0 hl0 e0 hfirst hlong hw3 HW
        go_enter Try.func53, Try.ntmps53
        go_wp2_with fail
        refine (areLots_any _ _).mono ?_
        rintro e w1 ⟨rfl, rfl⟩
        rw [hd]
        go_wp2_with fail
        refine (large_any lo _ n c T _ hT Hn.out hmax).mono ?_
        rintro e w1 ⟨rfl, rfl⟩
        rw [H2.out]
        go_wp2_with fail
        refine (none_any lo w.heap.size n0 _ n c T _ (hT.bel ((Bel.refl w).alloc _)) Hn.out hmax (by simp) hn03).mono ?_
        rintro e w1 ⟨rfl, hw1⟩
        subst hw1
        rw [HN0.out, H3.out]
        go_wp2
        exact bodyPost_ret (v := .tuple #[.slice none 0 0, .int .i64 1]) (by simp [results, Try.results53, go_sem]) rfl ⟨rfl, (Bel.refl w).alloc _⟩
      · have h3' : T.any (noneB (wide T)) = false := by simpa using h3
        have hrows : ∀ l ∈ T, l.length = wide T ∧ sidesB l = true := fun l hl => by
          have := List.any_eq_false.1 h3' l hl
          unfold noneB at this
          simpa using this
        have h4 : (List.range (wide T)).any (fun j => colS T j T.length != 0) = true := by
          cases h : (List.range (wide T)).any (fun j => colS T j T.length != 0)
          · exact absurd (by
              unfold errF
              rw [if_pos hfirst, if_neg (by show ¬ T.any (noneB (wide T)) = true; rw [h3']; simp), h]
              rfl) hE
          · rfl
        have HE : errF T = 5 := by
          unfold errF
          rw [if_pos hfirst, if_neg (by show ¬ T.any (noneB (wide T)) = true; rw [h3']; simp), h4]
          rfl
        rw [HE]
        obtain ⟨j, hj, hne⟩ := List.any_eq_true.1 h4
        have hj := List.mem_range.1 hj
        have hz : (sumT (planT T (wide T)) 0 n == 0 && (sumT (planT T (wide T)) 1 n == 0 && sumT (planT T (wide T)) 2 n == 0)) = false := by
          have hs := sumT_plan hrows j n (by omega)
          rw [if_pos hj, ← hn] at hs
          have hne' : sumT (planT T (wide T)) j T.length ≠ 0 := by rw [hs]; simpa using hne
          rw [← hn]
          rcases (by omega : j = 0 ∨ j = 1 ∨ j = 2) with rfl | rfl | rfl <;> simp [hne']
        exact fromMarks_sum lo n A c (planT T (wide T)) w (by rw [← hn, rows_marks hrows]; exact hT) (by omega) (by omega) (by rw [planT_length]; exact hw3) hz
  · have HE := Lib.hid (show errF T = 3 by
      unfold errF
      rw [if_neg]
      intro hh
      simp only [Bool.and_eq_true, decide_eq_true_eq] at hh
      omega)
    rw [HE.out]
    have hd := decide_eq_false h1
    clear hE hn h1
    go_enter Try.func53, Try.ntmps53
    go_wp2_with fail
    refine (areLots_any _ _).mono ?_
    rintro e w1 ⟨rfl, rfl⟩
    rw [hd]
    go_wp2
    exact bodyPost_ret (v := .tuple #[.slice none 0 0, .int .i64 3]) (by simp [results, Try.results53, go_sem]) rfl ⟨rfl, Bel.refl _⟩
theorem fromMarks_good (lo n : Nat) (A : Option Addr) (c : Nat) (T : List (List Int)) (w : World) (hT : Tab lo w A T) (hn : T.length = n) (hE : errF T = 0) :
    Calls Try.prog 53 #[.slice A n c] w fun e w' => ∃ b, e = .returned (.tuple #[.slice (some ⟨b, 0, none⟩) (wide T) (wide T), .int .i64 0]) ∧ Bel w w' ∧ Plan w.heap.size w' (some ⟨b, 0, none⟩) (planT T (wide T)) := by
  have h := errF_good hE
  have := fromMarks_ok lo n A c (planT T (wide T)) w (by rw [← hn, h.marks]; exact hT) (by rw [← hn]; exact h.good)
  rw [planT_length] at this
  exact this
end Go.Proofs.Ytmckoehkekkldaa
