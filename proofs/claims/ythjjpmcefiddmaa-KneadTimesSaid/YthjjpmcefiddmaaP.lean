/- Numbers, validatePlaces, Place of both. -/
import Derived.Test.YthjjpmcefiddmaaK
import Derived.Test.YthjjpmcefiddmaaL
namespace Go.Proofs.Ythjjpmcefiddmaa
open Go.RowKit

attribute [local go_sem] Oper.semAt_some

theorem numL_snoc (k : Nat) : numL (k + 1) = numL k ++ [(k : Int)] := by unfold numL; rw [List.range_succ, List.map_append]; rfl
set_option maxRecDepth 100000 in
set_option maxHeartbeats 1000000 in
theorem numbers_any (n : Nat) (w : World) (hn : n ≤ 100) : Calls Try.prog 30 #[.int .i64 (n : Int)] w fun e w' => ∃ v, e = .returned v ∧ Own1 3 w.heap.size w' v (numL n) ∧ Bel w w' := by
  obtain ⟨i0, hi, hz0, hz1, hz2⟩ := info_parts info1I
  go_enter Try.func30, Try.ntmps30
  go_wp2
  go_loopw [3, 4] (fun v i wr => ∃ k : Nat, k ≤ n ∧ i = .int .i64 k ∧ Bel w wr ∧ Own1 3 w.heap.size wr v (numL k)) (fun _ i _ => n - (intOf i).toNat)
  case atStart => exact ⟨0, Nat.zero_le _, rfl, Bel.refl _, Own1.nil _ _ _⟩
  case round =>
    obtain ⟨k, hk, rfl, hb, hO⟩ := hrel
    by_cases hlt : k < n
    · have hki : (k : Int) < (n : Int) := by omega
      have HS := Lib.hid (numL_snoc k)
      obtain ⟨ll, hll⟩ : ∃ ll, ll = numL k := ⟨_, rfl⟩
      have hlen : ll.length = k := by rw [hll, numL_len]
      rw [← hll] at hO HS
      have HLEN := Lib.hid hlen
      have hbs := hb.size
      have hX1 := Lib.hid (show ll.length + 1 ≤ maxLen by unfold maxLen; omega)
      have hX2 := Lib.hid (show (ll.length + 1) * 8 ≤ 140737488355328 by omega)
      clear hll hlen
      go_wp2_with (at_builtin; go_loud (refine wpList_append_lies _ rfl (.tmp 10) (.tmp 12) 22 rfl w.heap.size 3 i0 _ 1 8 Try.underlying22 hi hz0 hz1 hz2 rfl (by decide) _ ll.length (ll.map fun x => .int .i64 x) (by rfl) (hO.alloc _) ⟨wr.heap.size, 0, none⟩ 1 1 [.int .i64 (k : Int)] (by rfl) rfl (new1 wr _ _ _ rfl) (one1 _) (by omega) hX1.out hX2.out (Nat.le_trans hbs (by simp)) _ rfl ?_); intro g3 cap3 w3 hown3 hgr3 _ hlt3)
      obtain ⟨hB3, hs3, hblk⟩ := after_app hb (Nat.le_refl _) hO hbs hgr3
      have hO3 := Own1.snoc hown3
      clear hown3 hgr3 hlt3 hblk hO
      go_roundw
      case rel => exact ⟨k + 1, by omega, by go_num, hB3, by rw [HS.out]; exact hO3⟩
      case measure => simp [intOf]; omega
    · obtain rfl : k = n := by omega
      go_wp2
      go_ret
      exact ⟨_, rfl, hO, hb⟩
/-- What is wrong with a number of lumps and some places. -/
def inN (n p : Int) : Bool := decide (0 ≤ p ∧ p < n)
def eP (n : Int) (ps : List Int) : Int := if eD n = 0 then (if ps.all (inN n) then 0 else 4) else 1
theorem eP_zero {n : Int} {ps : List Int} (h : eP n ps = 0) : eD n = 0 ∧ ∀ p ∈ ps, 0 ≤ p ∧ p < n := by
  unfold eP at h
  split at h
  · rename_i h1
    split at h
    · rename_i h2
      exact ⟨h1, fun p hp => by simpa [inN] using List.all_eq_true.1 h2 p hp⟩
    · cases h
  · cases h
set_option maxRecDepth 100000 in
set_option maxHeartbeats 1000000 in
theorem validatePlaces_any (n : Int) (A : Option Addr) (m c : Nat) (ps : List Int) (w : World) (hR : Ints w A ps) (hm : ps.length = m) (h100 : m ≤ 100) :
    Calls Try.prog 53 #[.int .i64 n, .slice A m c] w fun e w' => e = .returned (.int .i64 (eP n ps)) ∧ w = w' := by
  have Hm := Lib.hid hm
  by_cases h0 : eD n = 0
  · have H0 := Lib.hid h0
    have HX : Hid (∀ b : Bool, ps.all (inN n) = b → eP n ps = if b then 0 else 4) := fun b hb => by unfold eP; rw [if_pos h0, hb]
    clear h0 hm
    go_enter Try.func53, Try.ntmps53
    go_wp2_with fail
    refine (validateLumps_any n _).mono ?_
    rintro e w1 ⟨rfl, rfl⟩
    rw [H0.out]
    go_wp2
    go_loop [7, 15] (fun _ i => ∃ k : Nat, k ≤ m ∧ i = .int .i64 k ∧ ∀ (j : Nat) (u : Int), j < k → ps[j]? = some u → inN n u = true) (fun _ i => m - (intOf i).toNat)
    case atStart => exact ⟨0, Nat.zero_le _, rfl, fun j u hj => by omega⟩
    case round =>
      obtain ⟨k, hk, rfl, hz⟩ := hrel
      have HZ := Lib.hid hz
      clear hz
      by_cases hlt : k < m
      · obtain ⟨b, o, x, rfl, hbl, hg, hc1⟩ := hR.at_ (k := k) (by rw [Hm.out]; exact hlt)
        have HG := Lib.hid hg
        clear hg
        by_cases hq : 0 ≤ x ∧ x < n
        · have HQ := Lib.hid (show inN n x = true from decide_eq_true hq)
          have q1 : ¬ x < 0 := by omega
          have q2 : ¬ x ≥ n := by omega
          clear hq
          go_wp2
          go_round
          case rel => exact ⟨k + 1, by omega, by go_num, fun j u hj hu => by
            rcases (by omega : j < k ∨ j = k) with h | rfl
            · exact HZ.out j u h hu
            · rw [HG.out] at hu; injection hu with hu; subst hu; exact HQ.out⟩
          case measure => simp [intOf]; omega
        · have HF := Lib.hid (show eP n ps = 4 from HX.out false (by rw [List.all_eq_false]; exact ⟨x, List.mem_of_getElem? HG.out, by simp [inN]; omega⟩))
          by_cases q1 : x < 0
          · clear hq
            go_wp2
            go_ret
            exact ⟨ret_int HF.out.symm, rfl⟩
          · have q2 : x ≥ n := by omega
            clear hq
            go_wp2
            go_ret
            exact ⟨ret_int HF.out.symm, rfl⟩
      · obtain rfl : k = m := by omega
        have HF := Lib.hid (show eP n ps = 0 from HX.out true (by
          rw [List.all_eq_true]
          intro u hu
          obtain ⟨j, hj⟩ := List.mem_iff_getElem?.1 hu
          exact HZ.out j u (by rw [← Hm.out]; exact (List.getElem?_eq_some_iff.1 hj).1) hj))
        go_wp2
        go_ret
        exact ⟨ret_int HF.out.symm, rfl⟩
  · have HE := Lib.hid (show eP n ps = 1 from by unfold eP; rw [if_neg h0])
    have H0 := Lib.hid (eD_one h0)
    clear h0 hm
    go_enter Try.func53, Try.ntmps53
    go_wp2_with fail
    refine (validateLumps_any n _).mono ?_
    rintro e w1 ⟨rfl, rfl⟩
    rw [H0.out]
    go_wp2
    go_ret
    exact ⟨ret_int HE.out.symm, rfl⟩
/-- What is wrong with a call of Place. -/
def eL (n : Int) (ws : List Int) (p : Int) : Int := if eP n [p] = 0 then eW ws else eP n [p]
theorem eL_zero {n p : Int} {ws : List Int} (h : eL n ws p = 0) : ∃ k q : Nat, 1 ≤ k ∧ k ≤ 16 ∧ n = ((2 * k : Nat) : Int) ∧ p = (q : Int) ∧ q < 2 * k ∧ eW ws = 0 ∧ eP n [p] = 0 := by
  unfold eL at h
  split at h
  · rename_i h1
    obtain ⟨h2, h3⟩ := eP_zero h1
    obtain ⟨k, k1, k2, k3⟩ := eD_zero h2
    have h4 := h3 p (by simp)
    exact ⟨k, p.toNat, k1, k2, k3, by omega, by omega, h, h1⟩
  · rename_i h1
    exact absurd h h1
set_option maxRecDepth 100000 in
set_option maxHeartbeats 1000000 in
theorem place_ok (h : Nat) (A : Option Addr) (n c : Nat) (ws : List Int) (p : Nat) (w : World) (h1 : 1 ≤ h) (h16 : h ≤ 16) (hp : p < 2 * h) (hR : Ints w A ws) (hn : ws.length = n) (hE : eW ws = 0) (hP : eP ((2 * h : Nat) : Int) [(p : Int)] = 0) :
    Calls Try.prog 22 #[.int .i64 ((2 * h : Nat) : Int), .slice A n c, .int .i64 (p : Int)] w fun e w' => e = .returned (.tuple #[.int .i64 ((goW h ws p : Nat) : Int), .int .i64 0]) ∧ Bel w w' := by
  obtain ⟨hw1, hw2⟩ := eW_zero hE
  have hmx : n ≤ maxLen := by unfold maxLen; omega
  obtain ⟨L, hL⟩ : ∃ L : Int, L = ((2 * h : Nat) : Int) := ⟨_, rfl⟩
  have HL := Lib.hid hL
  have HP : Hid (eP L [(p : Int)] = 0) := by rw [hL]; exact hP
  have HE := Lib.hid hE; have Hn := Lib.hid hn
  have HG := Lib.hid (goW_lt (h := h) hw2 hp)
  have HU := Lib.hid (un_goW (h := h) hw2 hp)
  obtain ⟨y, hy⟩ : ∃ y, y = goW h ws p := ⟨_, rfl⟩
  rw [← hL, ← hy]
  rw [← hy] at HG HU
  have HY := Lib.hid hy
  clear hE hP hn hw1 hL hy
  go_enter Try.func22, Try.ntmps22
  go_wp2_with fail
  refine (validatePlaces_any L (some ⟨_, 0, none⟩) 1 1 [(p : Int)] _ (one_int (by go_simp) (by simp)) rfl (by omega)).mono ?_
  rintro e w1 ⟨rfl, hw⟩
  subst hw
  rw [HP.out]
  go_wp2_with fail
  refine (validateWord_any A n c ws _ (hR.bel (by (repeat (first | exact Bel.refl _ | assumption | refine Bel.drew ?_ | refine Bel.drewN ?_ _ | refine Bel.alloc ?_ _ | refine Bel.setCell ?_ (by first | omega | (simp; done) | (simp; omega) | (simp at *; omega)) _ | refine Bel.trans ?_ (by assumption))))) Hn.out hmx).mono ?_
  rintro e w1 ⟨rfl, hw⟩
  subst hw
  rw [HE.out]
  go_wp2_with fail
  rw [HL.out]
  refine (numbered_any (2 * h) _ (by omega)).mono ?_
  rintro e w2 ⟨g, rfl, hg, hb2, hr⟩
  rw [← HL.out]
  have hb02 : Bel w w2 := ((Bel.refl w).alloc _).trans hb2
  go_wp2_with fail
  refine (behind_any h _ A n c ws (fun i => (i : Int)) _ ⟨g, 0, 2 * h, rfl, Nat.le_refl _, Seg.of_row hr⟩ h1 h16 (hR.bel hb02) Hn.out hmx hw2).mono ?_
  rintro e w3 ⟨v, rfl, hb3, b, o, c3, rfl, hc3, hS⟩
  go_wp2_with fail
  refine (index_at _ (2 * h) c3 y _ (p : Int) _ hS.list (by simp) (by unfold maxLen; omega) (by rw [List.getElem?_map, List.getElem?_range HG.out]; simp [HU.out]) (fun j u hj hu e => by
    have hjl : j < 2 * h := by have := HG.out; omega
    rw [List.getElem?_map, List.getElem?_range hjl] at hu
    simp at hu
    have h5 : unW h ws j = p := by omega
    have h6 := go_unW hw2 hjl
    rw [h5, ← HY.out] at h6
    omega)).mono ?_
  rintro e w4 ⟨rfl, hw⟩
  subst hw
  go_wp2
  exact bodyPost_ret (v := .tuple #[.int .i64 (y : Int), .int .i64 0]) (by simp [results, Try.results22, go_sem]) rfl ⟨rfl, hb02.trans hb3⟩
set_option maxRecDepth 100000 in
set_option maxHeartbeats 1000000 in
theorem place_err (L : Int) (A : Option Addr) (n c : Nat) (ws : List Int) (p : Int) (w : World) (hR : Ints w A ws) (hn : ws.length = n) (hmx : n ≤ maxLen) (hE : eL L ws p ≠ 0) :
    Calls Try.prog 22 #[.int .i64 L, .slice A n c, .int .i64 p] w fun e w' => e = .returned (.tuple #[.int .i64 0, .int .i64 (eL L ws p)]) ∧ Bel w w' := by
  by_cases hP : eP L [p] = 0
  · have hX : eL L ws p = eW ws := by unfold eL; rw [if_pos hP]
    rw [hX] at hE ⊢
    obtain ⟨x, hx⟩ : ∃ x, x = eW ws := ⟨_, rfl⟩
    have HX := Lib.hid hx; have HP := Lib.hid hP
    have hx0 : (x != 0) = true := by rw [hx]; simpa using hE
    rw [← hx]
    clear hE hx hX hP
    go_enter Try.func22, Try.ntmps22
    go_wp2_with fail
    refine (validatePlaces_any L (some ⟨_, 0, none⟩) 1 1 [p] _ (one_int (by go_simp) (by simp)) rfl (by omega)).mono ?_
    rintro e w1 ⟨rfl, hw⟩
    subst hw
    rw [HP.out]
    go_wp2_with fail
    refine (validateWord_any A n c ws _ (hR.bel (by (repeat (first | exact Bel.refl _ | assumption | refine Bel.drew ?_ | refine Bel.drewN ?_ _ | refine Bel.alloc ?_ _ | refine Bel.setCell ?_ (by first | omega | (simp; done) | (simp; omega) | (simp at *; omega)) _ | refine Bel.trans ?_ (by assumption))))) hn hmx).mono ?_
    rintro e w1 ⟨rfl, hw⟩
    subst hw
    rw [← HX.out]
    go_wp2
    exact bodyPost_ret (v := .tuple #[.int .i64 0, .int .i64 x]) (by simp [results, Try.results22, go_sem]) rfl ⟨rfl, by (repeat (first | exact Bel.refl _ | assumption | refine Bel.drew ?_ | refine Bel.drewN ?_ _ | refine Bel.alloc ?_ _ | refine Bel.setCell ?_ (by first | omega | (simp; done) | (simp; omega) | (simp at *; omega)) _ | refine Bel.trans ?_ (by assumption)))⟩
  · have hX : eL L ws p = eP L [p] := by unfold eL; rw [if_neg hP]
    rw [hX] at hE ⊢
    obtain ⟨x, hx⟩ : ∃ x, x = eP L [p] := ⟨_, rfl⟩
    have HX := Lib.hid hx
    have hx0 : (x != 0) = true := by rw [hx]; simpa using hE
    rw [← hx]
    clear hE hx hX hP
    go_enter Try.func22, Try.ntmps22
    go_wp2_with fail
    refine (validatePlaces_any L (some ⟨_, 0, none⟩) 1 1 [p] _ (one_int (by go_simp) (by simp)) rfl (by omega)).mono ?_
    rintro e w1 ⟨rfl, hw⟩
    subst hw
    rw [← HX.out]
    go_wp2
    exact bodyPost_ret (v := .tuple #[.int .i64 0, .int .i64 x]) (by simp [results, Try.results22, go_sem]) rfl ⟨rfl, by (repeat (first | exact Bel.refl _ | assumption | refine Bel.drew ?_ | refine Bel.drewN ?_ _ | refine Bel.alloc ?_ _ | refine Bel.setCell ?_ (by first | omega | (simp; done) | (simp; omega) | (simp at *; omega)) _ | refine Bel.trans ?_ (by assumption)))⟩
end Go.Proofs.Ythjjpmcefiddmaa
