/- The program's checks; fold, once, Out, In, UnOut, UnIn; behind, Fold. -/
import Derived.Test.YthjjpmcefiddmaaF
namespace Go.Proofs.Ythjjpmcefiddmaa
open Go.RowKit

attribute [local go_sem] Oper.semAt_some

/-- What is wrong with a number of lumps, and with a word. -/
def eD (n : Int) : Int := if okN n then 0 else 1
def kB (v : Int) : Bool := decide (v = 0 ∨ v = 1)
def eW (ws : List Int) : Int := if 40 < ws.length then 3 else if ws.all kB then 0 else 1
theorem eD_zero {n : Int} (h : eD n = 0) : ∃ k : Nat, 1 ≤ k ∧ k ≤ 16 ∧ n = ((2 * k : Nat) : Int) := by
  unfold eD at h
  split at h
  · rename_i h1; exact okN_half h1
  · cases h
theorem eD_half {k : Nat} (h1 : 1 ≤ k) (h2 : k ≤ 16) : eD ((2 * k : Nat) : Int) = 0 := by
  unfold eD okN
  rw [if_pos (by simp; omega)]
theorem eD_one {n : Int} (h : eD n ≠ 0) : eD n = 1 := by
  unfold eD at h ⊢
  split
  · rename_i h1; rw [if_pos h1] at h; exact absurd rfl h
  · rfl
theorem eW_zero {ws : List Int} (h : eW ws = 0) : ws.length ≤ 40 ∧ WordOK ws := by
  unfold eW at h
  split at h
  · cases h
  · rename_i h1
    split at h
    · rename_i h2
      exact ⟨by omega, fun v hv => by simpa [kB] using List.all_eq_true.1 h2 v hv⟩
    · cases h
theorem eW_ok {ws : List Int} (h1 : ws.length ≤ 40) (h2 : WordOK ws) : eW ws = 0 := by
  unfold eW
  rw [if_neg (by omega), if_pos (List.all_eq_true.2 fun v hv => by simpa [kB] using h2 v hv)]
set_option maxHeartbeats 1000000 in
theorem validateLumps_any (n : Int) (w : World) : Calls Try.prog 88 #[.int .i64 n] w fun e w' => e = .returned (.int .i64 (eD n)) ∧ w = w' := by
  by_cases h1 : n < 2
  · have HE := Lib.hid (show eD n = 1 from by unfold eD okN; rw [if_neg (by simp; omega)])
    rw [HE.out]
    go_enter Try.func88, Try.ntmps88
    go_wp2
    go_ret
    exact ⟨rfl, rfl⟩
  · have h1' : ¬ n < 2 := h1
    by_cases h2 : n > 32
    · have HE := Lib.hid (show eD n = 1 from by unfold eD okN; rw [if_neg (by simp; omega)])
      rw [HE.out]
      go_enter Try.func88, Try.ntmps88
      go_wp2
      go_ret
      exact ⟨rfl, rfl⟩
    · have h3 : Int.tmod n 2 = n % 2 := Int.tmod_eq_emod_of_nonneg (by omega)
      by_cases h4 : n % 2 = 0
      · have h5 : (n % 2 != 0) = false := by rw [h4]; rfl
        have HE := Lib.hid (show eD n = 0 from by unfold eD okN; rw [if_pos (by simp; omega)])
        rw [HE.out]
        clear h4
        go_enter Try.func88, Try.ntmps88
        go_wp2
        go_ret
        exact ⟨rfl, rfl⟩
      · have h5 : (n % 2 != 0) = true := by simpa using h4
        have HE := Lib.hid (show eD n = 1 from by unfold eD okN; rw [if_neg (by simp; omega)])
        rw [HE.out]
        clear h4
        go_enter Try.func88, Try.ntmps88
        go_wp2
        go_ret
        exact ⟨rfl, rfl⟩
theorem isKind_any (v : Int) (w : World) : Calls Try.prog 93 #[.int .i64 v] w fun e w' => e = .returned (.bool (kB v)) ∧ w = w' := by
  by_cases h0 : v = 0
  · subst h0
    go_enter Try.func93, Try.ntmps93
    go_wp2
    go_ret
    exact ⟨rfl, rfl⟩
  · by_cases h1 : v = 1
    · subst h1
      go_enter Try.func93, Try.ntmps93
      go_wp2
      go_ret
      exact ⟨rfl, rfl⟩
    · have HE := Lib.hid (show kB v = false from by unfold kB; simp [h0, h1])
      rw [HE.out]
      have a0 : (v == 0) = false := by simpa using h0
      have a1 : (v == 1) = false := by simpa using h1
      clear h0 h1
      go_enter Try.func93, Try.ntmps93
      go_wp2
      go_ret
      exact ⟨rfl, rfl⟩
theorem validate_any (A : Option Addr) (n c : Nat) (w : World) : Calls Try.prog 47 #[.slice A n c] w fun e w' => e = .returned (.int .i64 (eD n)) ∧ w = w' := by
  go_enter Try.func47, Try.ntmps47
  go_wp2_with fail
  refine (validateLumps_any _ _).mono ?_
  rintro e w1 ⟨rfl, rfl⟩
  go_wp2
  go_ret
  exact ⟨rfl, rfl⟩
set_option maxHeartbeats 1000000 in
theorem validateWord_any (A : Option Addr) (n c : Nat) (ws : List Int) (w : World) (hR : Ints w A ws) (hn : ws.length = n) (hmax : n ≤ maxLen) :
    Calls Try.prog 54 #[.slice A n c] w fun e w' => e = .returned (.int .i64 (eW ws)) ∧ w = w' := by
  have Hn := Lib.hid hn
  by_cases h40 : 40 < n
  · have HE := Lib.hid (show eW ws = 3 from by unfold eW; rw [if_pos (by omega)])
    rw [HE.out]
    have h40' : 40 < (n : Int) := by omega
    clear hn h40
    go_enter Try.func54, Try.ntmps54
    go_wp2
    go_ret
    exact ⟨rfl, rfl⟩
  · have h40' : (n : Int) ≤ 40 := by omega
    have HX : Hid (∀ b : Bool, ws.all kB = b → eW ws = if b then 0 else 1) := fun b hb => by unfold eW; rw [if_neg (by omega), hb]
    clear hn h40
    go_enter Try.func54, Try.ntmps54
    go_wp2
    go_loop [4, 10] (fun _ i => ∃ k : Nat, k ≤ n ∧ i = .int .i64 k ∧ ∀ (j : Nat) (u : Int), j < k → ws[j]? = some u → kB u = true) (fun _ i => n - (intOf i).toNat)
    case atStart => exact ⟨0, Nat.zero_le _, rfl, fun j u hj => by omega⟩
    case round =>
      obtain ⟨k, hk, rfl, hz⟩ := hrel
      have HZ := Lib.hid hz
      clear hz
      by_cases hlt : k < n
      · obtain ⟨b, o, x, rfl, hbl, hg, hc1⟩ := hR.at_ (k := k) (by rw [Hn.out]; exact hlt)
        have HG := Lib.hid hg
        clear hg
        go_wp2_with fail
        refine (isKind_any x _).mono ?_
        rintro e w1 ⟨rfl, rfl⟩
        cases hq : kB x
        · have HF := Lib.hid (show eW ws = 1 from HX.out false (by rw [List.all_eq_false]; exact ⟨x, List.mem_of_getElem? HG.out, by simp [hq]⟩))
          clear hq
          go_wp2
          go_ret
          exact ⟨ret_int HF.out.symm, rfl⟩
        · have HQ := Lib.hid hq
          clear hq
          go_wp2
          go_round
          case rel => exact ⟨k + 1, by omega, by go_num, fun j u hj hu => by
            rcases (by omega : j < k ∨ j = k) with h | rfl
            · exact HZ.out j u h hu
            · rw [HG.out] at hu; injection hu with hu; subst hu; exact HQ.out⟩
          case measure => simp [intOf]; omega
      · obtain rfl : k = n := by omega
        have HF := Lib.hid (show eW ws = 0 from HX.out true (by
          rw [List.all_eq_true]
          intro u hu
          obtain ⟨j, hj⟩ := List.mem_iff_getElem?.1 hu
          exact HZ.out j u (by rw [← Hn.out]; exact (List.getElem?_eq_some_iff.1 hj).1) hj))
        go_wp2
        go_ret
        exact ⟨ret_int HF.out.symm, rfl⟩
/-- First what is wrong with the dough, then with the word. -/
def eDW (n : Int) (ws : List Int) : Int := if eD n = 0 then eW ws else 1
theorem eDW_zero {n : Int} {ws : List Int} (h : eDW n ws = 0) : eD n = 0 ∧ eW ws = 0 := by
  unfold eDW at h
  split at h
  · rename_i h1; exact ⟨h1, h⟩
  · cases h
theorem validateDW_any (D : Option Addr) (m d : Nat) (A : Option Addr) (n c : Nat) (ws : List Int) (w : World) (hR : Ints w A ws) (hn : ws.length = n) (hmax : n ≤ maxLen) :
    Calls Try.prog 65 #[.slice D m d, .slice A n c] w fun e w' => e = .returned (.int .i64 (eDW m ws)) ∧ w = w' := by
  by_cases h0 : eD m = 0
  · have HE := Lib.hid (show eDW m ws = eW ws from by unfold eDW; rw [if_pos h0])
    have H0 := Lib.hid h0
    clear h0
    go_enter Try.func65, Try.ntmps65
    go_wp2_with fail
    refine (validate_any D m d _).mono ?_
    rintro e w1 ⟨rfl, rfl⟩
    rw [H0.out]
    go_wp2_with fail
    refine (validateWord_any A n c ws _ hR hn hmax).mono ?_
    rintro e w1 ⟨rfl, rfl⟩
    go_wp2
    go_ret
    exact ⟨ret_int HE.out.symm, rfl⟩
  · have HE := Lib.hid (show eDW m ws = 1 from by unfold eDW; rw [if_neg h0])
    have H0 := Lib.hid (eD_one h0)
    clear h0
    go_enter Try.func65, Try.ntmps65
    go_wp2_with fail
    refine (validate_any D m d _).mono ?_
    rintro e w1 ⟨rfl, rfl⟩
    rw [H0.out]
    go_wp2
    go_ret
    exact ⟨ret_int HE.out.symm, rfl⟩
/-- The fold of a kind is a function value that holds the batch. -/
theorem fold_any (v : Value) (k : Nat) (hk : k ≤ 1) (w : World) : Calls Try.prog 61 #[v, .int .i64 (k : Int)] w fun e w' => e = .returned (.func (Fn.func (if k = 0 then 84 else 85)) #[v] #[]) ∧ w = w' := by
  have hm := hmf
  rcases (by omega : k = 0 ∨ k = 1) with rfl | rfl
  · go_enter Try.func61, Try.ntmps61
    go_wp2
    go_ret
    exact ⟨rfl, rfl⟩
  · go_enter Try.func61, Try.ntmps61
    go_wp2
    go_ret
    exact ⟨rfl, rfl⟩
theorem unfold_any (v : Value) (k : Nat) (hk : k ≤ 1) (w : World) : Calls Try.prog 107 #[v, .int .i64 (k : Int)] w fun e w' => e = .returned (.func (Fn.func (if k = 0 then 86 else 87)) #[v] #[]) ∧ w = w' := by
  have hm := hmf
  rcases (by omega : k = 0 ∨ k = 1) with rfl | rfl
  · go_enter Try.func107, Try.ntmps107
    go_wp2
    go_ret
    exact ⟨rfl, rfl⟩
  · go_enter Try.func107, Try.ntmps107
    go_wp2
    go_ret
    exact ⟨rfl, rfl⟩
theorem folded_any (k : Nat) (hk : k ≤ 1) (b o h c : Nat) (f : Nat → Int) (w : World) (hS : Seg w b o (2 * h) f) (h1 : 1 ≤ h) (h16 : h ≤ 16) (hc : 2 * h ≤ c) :
    Calls Try.prog (if k = 0 then 84 else 85) #[.slice (some ⟨b, o, none⟩) (2 * h) c] w (Made (2 * h) (fun q => f (unN h k q)) w) := by
  rcases (by omega : k = 0 ∨ k = 1) with rfl | rfl
  · exact out_any b o h c f w hS h1 h16 hc
  · exact in_any b o h c f w hS h1 h16 hc
theorem unfolded_any (k : Nat) (hk : k ≤ 1) (b o h c : Nat) (f : Nat → Int) (w : World) (hS : Seg w b o (2 * h) f) (h1 : 1 ≤ h) (h16 : h ≤ 16) :
    Calls Try.prog (if k = 0 then 86 else 87) #[.slice (some ⟨b, o, none⟩) (2 * h) c] w (Made (2 * h) (fun q => f (goN h k q)) w) := by
  rcases (by omega : k = 0 ∨ k = 1) with rfl | rfl
  · exact unOut_any b o h c f w hS h1 h16
  · exact unIn_any b o h c f w hS h1 h16
end Go.Proofs.Ythjjpmcefiddmaa
