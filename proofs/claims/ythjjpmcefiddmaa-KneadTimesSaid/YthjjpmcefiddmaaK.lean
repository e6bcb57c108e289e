/- The document's unfold, its checks, One, UnOne, Fold, Unfold. -/
import Derived.Test.YthjjpmcefiddmaaJ
namespace Go.Proofs.Ythjjpmcefiddmaa
open Go.RowKit

attribute [local go_sem] Oper.semAt_some

/-- What the document's unfold has laid by round k. -/
def getF (h : Nat) (ws l : List Int) (k q : Nat) : Int := if q < k then l.getD (goW h ws q) 0 else 0
set_option maxRecDepth 100000 in
set_option maxHeartbeats 1000000 in
theorem runfold_any (h : Nat) (D : Option Addr) (d : Nat) (l : List Int) (A : Option Addr) (n c : Nat) (ws : List Int) (w : World) (h1 : 1 ≤ h) (h16 : h ≤ 16) (hD : Ints w D l) (hl : l.length = 2 * h) (hR : Ints w A ws) (hn : ws.length = n) (hmax : n ≤ maxLen) (hW : WordOK ws) :
    Calls Try.prog 82 #[.slice D (2 * h) d, .slice A n c] w (Made (2 * h) (fun q => l.getD (goW h ws q) 0) w) := by
  obtain ⟨b, o, rfl, hS⟩ := Seg.of_ints hD (by omega)
  rw [hl] at hS
  have hmk := make_ints h h16
  have hrow0 : Row (w.alloc (.cells (madeCells #[.int .i64 0] (2 * h)) 3)) w.heap.size (2 * h) 0 (fun q => l.getD (goW h ws q) 0) := row_made _ _ _
  have HW := Lib.hid hW
  clear hD hl hW
  go_enter Try.func82, Try.ntmps82
  go_wp2
  go_loopw [6] (fun i wr => ∃ k : Nat, k ≤ 2 * h ∧ i = .int .i64 k ∧ Bel w wr ∧ Row wr w.heap.size (2 * h) k (fun q => l.getD (goW h ws q) 0)) (fun i _ => 2 * h - (intOf i).toNat)
  case atStart => exact ⟨0, Nat.zero_le _, rfl, by (repeat (first | exact Bel.refl _ | assumption | refine Bel.drew ?_ | refine Bel.drewN ?_ _ | refine Bel.alloc ?_ _ | refine Bel.setCell ?_ (by first | omega | (simp; done) | (simp; omega) | (simp at *; omega)) _ | refine Bel.trans ?_ (by assumption))), hrow0⟩
  case round =>
    clear hmk hrow0
    obtain ⟨k, hk, rfl, hb, hrow⟩ := hrel
    by_cases hlt : k < 2 * h
    · have hki : (k : Int) < 2 * (h : Int) := by omega
      have hgl := goW_lt (h := h) HW.out hlt
      obtain ⟨v, hv⟩ := hrow.all k hlt
      have hfz := hrow.fz k
      have hgz := hrow.lt
      have c1 := (hS.bel hb).cells (goW h ws k) hgl
      have n1 := hS.lt
      have HS := Lib.hid (hrow.set_ (i := k) (x := l.getD (goW h ws k) 0) rfl hlt rfl)
      obtain ⟨x, hx⟩ : ∃ x, x = l.getD (goW h ws k) 0 := ⟨_, rfl⟩
      rw [← hx] at HS
      replace c1 : wr.cell? ⟨b, o + goW h ws k, none⟩ = some (.int .i64 x) := by rw [hx]; exact c1
      have HAL := Lib.hid (along_any h A n c ws k wr h16 hlt (hR.bel hb) hn hmax HW.out)
      generalize goW h ws k = y at *
      clear hx
      go_wp2_with fail
      refine HAL.out.mono ?_
      rintro e w' ⟨rfl, rfl⟩
      go_wp2
      go_roundw
      case rel => exact ⟨k + 1, by omega, by go_num, by (repeat (first | exact Bel.refl _ | assumption | refine Bel.drew ?_ | refine Bel.drewN ?_ _ | refine Bel.alloc ?_ _ | refine Bel.setCell ?_ (by first | omega | (simp; done) | (simp; omega) | (simp at *; omega)) _ | refine Bel.trans ?_ (by assumption))), by first | exact HS.out | exact HS.out.drew⟩
      case measure => simp [intOf]; omega
    · obtain rfl : k = 2 * h := by omega
      go_wp2
      go_ret
      exact ⟨_, rfl, Nat.le_refl _, hb, hrow⟩
theorem isLumps_any (n : Int) (w : World) : Calls Try.prog 67 #[.int .i64 n] w fun e w' => e = .returned (.bool (okN n)) ∧ w = w' := by
  by_cases h1 : 2 ≤ n ∧ n ≤ 32
  · have H1 := Lib.hid (decide_eq_true h1)
    have h3 : Int.tmod n 2 = n % 2 := Int.tmod_eq_emod_of_nonneg (by omega)
    have h2 : 2 ≤ n := h1.1
    by_cases h4 : n % 2 = 0
    · have HE := Lib.hid (show okN n = true from by unfold okN; simp; omega)
      have h5 : (n % 2 == 0) = true := by simpa using h4
      rw [HE.out]
      clear h1 h4
      go_enter Try.func67, Try.ntmps67
      go_wp2_with fail
      refine (within_any _ _ _ _).mono ?_
      rintro e w1 ⟨rfl, rfl⟩
      rw [H1.out]
      go_wp2
      go_ret
      exact ⟨rfl, rfl⟩
    · have HE := Lib.hid (show okN n = false from by unfold okN; simp; omega)
      have h5 : (n % 2 == 0) = false := by simpa using h4
      rw [HE.out]
      clear h1 h4
      go_enter Try.func67, Try.ntmps67
      go_wp2_with fail
      refine (within_any _ _ _ _).mono ?_
      rintro e w1 ⟨rfl, rfl⟩
      rw [H1.out]
      go_wp2
      go_ret
      exact ⟨rfl, rfl⟩
  · have H1 := Lib.hid (decide_eq_false h1)
    have HE := Lib.hid (show okN n = false from by unfold okN; simp; omega)
    rw [HE.out]
    clear h1
    go_enter Try.func67, Try.ntmps67
    go_wp2_with fail
    refine (within_any _ _ _ _).mono ?_
    rintro e w1 ⟨rfl, rfl⟩
    rw [H1.out]
    go_wp2
    go_ret
    exact ⟨rfl, rfl⟩
theorem eD_of {n : Int} {b : Bool} (h : okN n = b) : eD n = if b then 0 else 1 := by unfold eD; rw [h]
theorem rvalidate_any (A : Option Addr) (n c : Nat) (w : World) : Calls Try.prog 48 #[.slice A n c] w fun e w' => e = .returned (.int .i64 (eD n)) ∧ w = w' := by
  cases hb : okN (n : Int)
  all_goals
    have HB := Lib.hid hb
    have HE := Lib.hid (eD_of hb)
    rw [HE.out]
    clear hb
    go_enter Try.func48, Try.ntmps48
    go_wp2_with fail
    refine (isLumps_any _ _).mono ?_
    rintro e w1 ⟨rfl, rfl⟩
    rw [HB.out]
    go_wp2
    go_ret
    exact ⟨rfl, rfl⟩
theorem kB_within (v : Int) : decide (0 ≤ v ∧ v ≤ 1) = kB v := by unfold kB; exact decide_eq_decide.2 (by omega)
set_option maxHeartbeats 1000000 in
theorem worded_any (A : Option Addr) (n c : Nat) (ws : List Int) (w : World) (hR : Ints w A ws) (hn : ws.length = n) (hmax : n ≤ maxLen) :
    Calls Try.prog 91 #[.slice A n c] w fun e w' => e = .returned (.int .i64 (eW ws)) ∧ w = w' := by
  have Hn := Lib.hid hn
  by_cases h40 : 40 < n
  · have HE := Lib.hid (show eW ws = 3 from by unfold eW; rw [if_pos (by omega)])
    rw [HE.out]
    have h40' : 40 < (n : Int) := by omega
    clear hn h40
    go_enter Try.func91, Try.ntmps91
    go_wp2
    go_ret
    exact ⟨rfl, rfl⟩
  · have h40' : (n : Int) ≤ 40 := by omega
    have HX : Hid (∀ b : Bool, ws.all kB = b → eW ws = if b then 0 else 1) := fun b hb => by unfold eW; rw [if_neg (by omega), hb]
    clear hn h40
    go_enter Try.func91, Try.ntmps91
    go_wp2
    go_loop [3] (fun i => ∃ k : Nat, k ≤ n ∧ i = .int .i64 k ∧ ∀ (j : Nat) (u : Int), j < k → ws[j]? = some u → kB u = true) (fun i => n - (intOf i).toNat)
    case atStart => exact ⟨0, Nat.zero_le _, rfl, fun j u hj => by omega⟩
    case round =>
      obtain ⟨k, hk, rfl, hz⟩ := hrel
      have HZ := Lib.hid hz
      clear hz
      by_cases hlt : k < n
      · obtain ⟨b, o, x, rfl, hbl, hg, hc1⟩ := hR.at_ (k := k) (by rw [Hn.out]; exact hlt)
        have HG := Lib.hid hg
        clear hg
        go_wp2_with fail
        refine (within_any x _ _ _).mono ?_
        rintro e w1 ⟨rfl, rfl⟩
        rw [kB_within]
        cases hq : kB x
        · have HF := Lib.hid (show eW ws = 1 from HX.out false (by rw [List.all_eq_false]; exact ⟨x, List.mem_of_getElem? HG.out, by simp [hq]⟩))
          clear hq
          go_wp2
          go_ret
          exact ⟨ret_int HF.out.symm, rfl⟩
        · have HQ := Lib.hid hq
          clear hq
          go_wp2
          go_round
          case rel => exact ⟨k + 1, by omega, by go_num, fun j u hj hu => by
            rcases (by omega : j < k ∨ j = k) with h | rfl
            · exact HZ.out j u h hu
            · rw [HG.out] at hu; injection hu with hu; subst hu; exact HQ.out⟩
          case measure => simp [intOf]; omega
      · obtain rfl : k = n := by omega
        have HF := Lib.hid (show eW ws = 0 from HX.out true (by
          rw [List.all_eq_true]
          intro u hu
          obtain ⟨j, hj⟩ := List.mem_iff_getElem?.1 hu
          exact HZ.out j u (by rw [← Hn.out]; exact (List.getElem?_eq_some_iff.1 hj).1) hj))
        go_wp2
        go_ret
        exact ⟨ret_int HF.out.symm, rfl⟩
theorem both_any (D : Option Addr) (m d : Nat) (A : Option Addr) (n c : Nat) (ws : List Int) (w : World) (hR : Ints w A ws) (hn : ws.length = n) (hmax : n ≤ maxLen) :
    Calls Try.prog 89 #[.slice D m d, .slice A n c] w fun e w' => e = .returned (.int .i64 (eDW m ws)) ∧ w = w' := by
  by_cases h0 : eD m = 0
  · have HE := Lib.hid (show eDW m ws = eW ws from by unfold eDW; rw [if_pos h0])
    have H0 := Lib.hid h0
    clear h0
    go_enter Try.func89, Try.ntmps89
    go_wp2_with fail
    refine (rvalidate_any D m d _).mono ?_
    rintro e w1 ⟨rfl, rfl⟩
    rw [H0.out]
    go_wp2_with fail
    refine (worded_any A n c ws _ hR hn hmax).mono ?_
    rintro e w1 ⟨rfl, rfl⟩
    go_wp2
    go_ret
    exact ⟨ret_int HE.out.symm, rfl⟩
  · have HE := Lib.hid (show eDW m ws = 1 from by unfold eDW; rw [if_neg h0])
    have H0 := Lib.hid (eD_one h0)
    clear h0
    go_enter Try.func89, Try.ntmps89
    go_wp2_with fail
    refine (rvalidate_any D m d _).mono ?_
    rintro e w1 ⟨rfl, rfl⟩
    rw [H0.out]
    go_wp2
    go_ret
    exact ⟨ret_int HE.out.symm, rfl⟩
set_option maxRecDepth 100000 in
set_option maxHeartbeats 1000000 in
theorem rFold_ok (h : Nat) (D : Option Addr) (d : Nat) (l : List Int) (A : Option Addr) (n c : Nat) (ws : List Int) (w : World) (hD : Ints w D l) (hl : l.length = 2 * h) (hR : Ints w A ws) (hn : ws.length = n) (hE : eDW (2 * h : Nat) ws = 0) :
    Calls Try.prog 49 #[.slice D (2 * h) d, .slice A n c] w (Made0 (2 * h) (fun q => l.getD (unW h ws q) 0) w) := by
  obtain ⟨hE1, hE2⟩ := eDW_zero hE
  obtain ⟨k, h1, h2, h3⟩ := eD_zero hE1
  obtain rfl : k = h := by omega
  obtain ⟨hw1, hw2⟩ := eW_zero hE2
  have hmx : n ≤ maxLen := by unfold maxLen; omega
  have HE := Lib.hid hE; have Hn := Lib.hid hn; have Hl := Lib.hid hl
  clear hE hE1 hE2 h3 hn hl hw1
  go_enter Try.func49, Try.ntmps49
  go_wp2_with fail
  refine (both_any D (2 * k) d A n c ws _ hR Hn.out hmx).mono ?_
  rintro e w1 ⟨rfl, rfl⟩
  rw [HE.out]
  go_wp2_with fail
  refine (rfold_any k D d l A n c ws _ h1 h2 hD Hl.out hR Hn.out hmx hw2).mono ?_
  rintro e w1 ⟨g, rfl, hg, hb, hr⟩
  go_wp2
  exact bodyPost_ret (v := .tuple #[.slice (some ⟨g, 0, none⟩) (2 * k) (2 * k), .int .i64 0]) (by simp [results, Try.results49, go_sem]) rfl ⟨g, rfl, hg, hb, hr⟩
set_option maxRecDepth 100000 in
set_option maxHeartbeats 1000000 in
theorem rFold_err (D : Option Addr) (m d : Nat) (A : Option Addr) (n c : Nat) (ws : List Int) (w : World) (hR : Ints w A ws) (hn : ws.length = n) (hmx : n ≤ maxLen) (hE : eDW m ws ≠ 0) :
    Calls Try.prog 49 #[.slice D m d, .slice A n c] w (NilE (eDW m ws) w) := by
  obtain ⟨x, hx⟩ : ∃ x, x = eDW m ws := ⟨_, rfl⟩
  have HX := Lib.hid hx
  have hx0 : (x != 0) = true := by rw [hx]; simpa using hE
  rw [← hx]
  clear hE hx
  go_enter Try.func49, Try.ntmps49
  go_wp2_with fail
  refine (both_any D m d A n c ws _ hR hn hmx).mono ?_
  rintro e w1 ⟨rfl, rfl⟩
  rw [← HX.out]
  go_wp2
  exact bodyPost_ret (v := .tuple #[.slice none 0 0, .int .i64 x]) (by simp [results, Try.results49, go_sem]) rfl ⟨rfl, Bel.refl _⟩
set_option maxRecDepth 100000 in
set_option maxHeartbeats 1000000 in
theorem rUnfold_ok (h : Nat) (D : Option Addr) (d : Nat) (l : List Int) (A : Option Addr) (n c : Nat) (ws : List Int) (w : World) (hD : Ints w D l) (hl : l.length = 2 * h) (hR : Ints w A ws) (hn : ws.length = n) (hE : eDW (2 * h : Nat) ws = 0) :
    Calls Try.prog 50 #[.slice D (2 * h) d, .slice A n c] w (Made0 (2 * h) (fun q => l.getD (goW h ws q) 0) w) := by
  obtain ⟨hE1, hE2⟩ := eDW_zero hE
  obtain ⟨k, h1, h2, h3⟩ := eD_zero hE1
  obtain rfl : k = h := by omega
  obtain ⟨hw1, hw2⟩ := eW_zero hE2
  have hmx : n ≤ maxLen := by unfold maxLen; omega
  have HE := Lib.hid hE; have Hn := Lib.hid hn; have Hl := Lib.hid hl
  clear hE hE1 hE2 h3 hn hl hw1
  go_enter Try.func50, Try.ntmps50
  go_wp2_with fail
  refine (both_any D (2 * k) d A n c ws _ hR Hn.out hmx).mono ?_
  rintro e w1 ⟨rfl, rfl⟩
  rw [HE.out]
  go_wp2_with fail
  refine (runfold_any k D d l A n c ws _ h1 h2 hD Hl.out hR Hn.out hmx hw2).mono ?_
  rintro e w1 ⟨g, rfl, hg, hb, hr⟩
  go_wp2
  exact bodyPost_ret (v := .tuple #[.slice (some ⟨g, 0, none⟩) (2 * k) (2 * k), .int .i64 0]) (by simp [results, Try.results50, go_sem]) rfl ⟨g, rfl, hg, hb, hr⟩
set_option maxRecDepth 100000 in
set_option maxHeartbeats 1000000 in
theorem rUnfold_err (D : Option Addr) (m d : Nat) (A : Option Addr) (n c : Nat) (ws : List Int) (w : World) (hR : Ints w A ws) (hn : ws.length = n) (hmx : n ≤ maxLen) (hE : eDW m ws ≠ 0) :
    Calls Try.prog 50 #[.slice D m d, .slice A n c] w (NilE (eDW m ws) w) := by
  obtain ⟨x, hx⟩ : ∃ x, x = eDW m ws := ⟨_, rfl⟩
  have HX := Lib.hid hx
  have hx0 : (x != 0) = true := by rw [hx]; simpa using hE
  rw [← hx]
  clear hE hx
  go_enter Try.func50, Try.ntmps50
  go_wp2_with fail
  refine (both_any D m d A n c ws _ hR hn hmx).mono ?_
  rintro e w1 ⟨rfl, rfl⟩
  rw [← HX.out]
  go_wp2
  exact bodyPost_ret (v := .tuple #[.slice none 0 0, .int .i64 x]) (by simp [results, Try.results50, go_sem]) rfl ⟨rfl, Bel.refl _⟩
theorem one_int {w : World} {g : Nat} {x : Int} (h0 : w.cell? ⟨g, 0, none⟩ = some (.int .i64 x)) (hl : g < w.heap.size) : Ints w (some ⟨g, 0, none⟩) [x] := by
  refine .inr ⟨g, 0, rfl, hl, fun j v hj => ?_⟩
  match j, hj with
  | 0, hj => simp at hj; subst hj; exact h0
  | j + 1, hj => simp at hj
set_option maxRecDepth 100000 in
set_option maxHeartbeats 1000000 in
theorem rOne_ok (h k : Nat) (D : Option Addr) (d : Nat) (l : List Int) (w : World) (h1 : 1 ≤ h) (h16 : h ≤ 16) (hk : k ≤ 1) (hD : Ints w D l) (hl : l.length = 2 * h) :
    Calls Try.prog 41 #[.slice D (2 * h) d, .int .i64 (k : Int)] w (Made0 (2 * h) (fun q => l.getD (unW h [(k : Int)] q) 0) w) := by
  have HE := Lib.hid (eD_half h1 h16)
  obtain ⟨x, hx⟩ : ∃ x : Int, x = (k : Int) := ⟨_, rfl⟩
  have hxx : x = 0 ∨ x = 1 := by omega
  have HW := Lib.hid (show WordOK [x] from fun v hv => by simp at hv; subst hv; exact hxx)
  rw [← hx]
  have Hl := Lib.hid hl
  clear hx hxx hl
  go_enter Try.func41, Try.ntmps41
  go_wp2_with fail
  refine (rvalidate_any D (2 * h) d _).mono ?_
  rintro e w1 ⟨rfl, rfl⟩
  rw [HE.out]
  go_wp2_with fail
  refine (rfold_any h D d l (some ⟨_, 0, none⟩) 1 1 [x] _ h1 h16 (hD.bel ((Bel.refl _).alloc _)) Hl.out (one_int (by go_simp) (by simp)) rfl (by unfold maxLen; omega) HW.out).mono ?_
  rintro e w2 ⟨g, rfl, hg, hb, hr⟩
  go_wp2
  exact bodyPost_ret (v := .tuple #[.slice (some ⟨g, 0, none⟩) (2 * h) (2 * h), .int .i64 0]) (by simp [results, Try.results41, go_sem]) rfl ⟨g, rfl, Nat.le_trans (by simp) hg, ((Bel.refl _).alloc _).trans hb, hr⟩
set_option maxRecDepth 100000 in
set_option maxHeartbeats 1000000 in
theorem rOne_err (D : Option Addr) (m d : Nat) (x : Int) (w : World) (hE : eD m ≠ 0) : Calls Try.prog 41 #[.slice D m d, .int .i64 x] w (NilE 1 w) := by
  have HE := Lib.hid (eD_one hE)
  clear hE
  go_enter Try.func41, Try.ntmps41
  go_wp2_with fail
  refine (rvalidate_any D m d _).mono ?_
  rintro e w1 ⟨rfl, rfl⟩
  rw [HE.out]
  go_wp2
  exact bodyPost_ret (v := .tuple #[.slice none 0 0, .int .i64 1]) (by simp [results, Try.results41, go_sem]) rfl ⟨rfl, Bel.refl _⟩
set_option maxRecDepth 100000 in
set_option maxHeartbeats 1000000 in
theorem rUnOne_ok (h k : Nat) (D : Option Addr) (d : Nat) (l : List Int) (w : World) (h1 : 1 ≤ h) (h16 : h ≤ 16) (hk : k ≤ 1) (hD : Ints w D l) (hl : l.length = 2 * h) :
    Calls Try.prog 42 #[.slice D (2 * h) d, .int .i64 (k : Int)] w (Made0 (2 * h) (fun q => l.getD (goW h [(k : Int)] q) 0) w) := by
  have HE := Lib.hid (eD_half h1 h16)
  obtain ⟨x, hx⟩ : ∃ x : Int, x = (k : Int) := ⟨_, rfl⟩
  have hxx : x = 0 ∨ x = 1 := by omega
  have HW := Lib.hid (show WordOK [x] from fun v hv => by simp at hv; subst hv; exact hxx)
  rw [← hx]
  have Hl := Lib.hid hl
  clear hx hxx hl
  go_enter Try.func42, Try.ntmps42
  go_wp2_with fail
  refine (rvalidate_any D (2 * h) d _).mono ?_
  rintro e w1 ⟨rfl, rfl⟩
  rw [HE.out]
  go_wp2_with fail
  refine (runfold_any h D d l (some ⟨_, 0, none⟩) 1 1 [x] _ h1 h16 (hD.bel ((Bel.refl _).alloc _)) Hl.out (one_int (by go_simp) (by simp)) rfl (by unfold maxLen; omega) HW.out).mono ?_
  rintro e w2 ⟨g, rfl, hg, hb, hr⟩
  go_wp2
  exact bodyPost_ret (v := .tuple #[.slice (some ⟨g, 0, none⟩) (2 * h) (2 * h), .int .i64 0]) (by simp [results, Try.results42, go_sem]) rfl ⟨g, rfl, Nat.le_trans (by simp) hg, ((Bel.refl _).alloc _).trans hb, hr⟩
set_option maxRecDepth 100000 in
set_option maxHeartbeats 1000000 in
theorem rUnOne_err (D : Option Addr) (m d : Nat) (x : Int) (w : World) (hE : eD m ≠ 0) : Calls Try.prog 42 #[.slice D m d, .int .i64 x] w (NilE 1 w) := by
  have HE := Lib.hid (eD_one hE)
  clear hE
  go_enter Try.func42, Try.ntmps42
  go_wp2_with fail
  refine (rvalidate_any D m d _).mono ?_
  rintro e w1 ⟨rfl, rfl⟩
  rw [HE.out]
  go_wp2
  exact bodyPost_ret (v := .tuple #[.slice none 0 0, .int .i64 1]) (by simp [results, Try.results42, go_sem]) rfl ⟨rfl, Bel.refl _⟩
end Go.Proofs.Ythjjpmcefiddmaa
