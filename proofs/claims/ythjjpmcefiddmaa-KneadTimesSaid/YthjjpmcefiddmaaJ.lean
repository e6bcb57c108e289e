/- The document's goes, along, fold, unfold, its checks, One, UnOne, Fold, Unfold. -/
import Derived.Test.YthjjpmcefiddmaaI
namespace Go.Proofs.Ythjjpmcefiddmaa
open Go.RowKit

attribute [local go_sem] Oper.semAt_some

theorem half_any (h : Nat) : Int.tdiv ((2 * h : Nat) : Int) 2 = (h : Int) := by rw [Int.tdiv_eq_ediv_of_nonneg (by omega)]; omega
theorem half_two (h : Nat) : Int.tdiv (2 * (h : Int)) 2 = (h : Int) := by rw [Int.tdiv_eq_ediv_of_nonneg (by omega)]; omega
set_option maxHeartbeats 1000000 in
theorem goes_any (h k p : Nat) (w : World) (h16 : h ≤ 16) (hk : k ≤ 1) (hp : p < 2 * h) :
    Calls Try.prog 71 #[.int .i64 ((2 * h : Nat) : Int), .int .i64 (k : Int), .int .i64 (p : Int)] w fun e w' => e = .returned (.int .i64 ((goN h k p : Nat) : Int)) ∧ w = w' := by
  have hq := half_any h
  have hq2 := half_two h
  by_cases hlt : p < h
  · have HG := Lib.hid (show ((goN h k p : Nat) : Int) = 2 * (p : Int) + (k : Int) from by unfold goN; rw [if_pos hlt]; omega)
    rw [HG.out]
    have hi : (p : Int) < (h : Int) := by omega
    go_enter Try.func71, Try.ntmps71
    go_wp2
    go_ret
    exact ⟨rfl, rfl⟩
  · have HG := Lib.hid (show ((goN h k p : Nat) : Int) = 2 * ((p : Int) - (h : Int)) + 1 - (k : Int) from by unfold goN; rw [if_neg hlt]; omega)
    rw [HG.out]
    have hi : (h : Int) ≤ (p : Int) := by omega
    go_enter Try.func71, Try.ntmps71
    go_wp2
    go_ret
    exact ⟨rfl, rfl⟩
set_option maxHeartbeats 1000000 in
theorem along_any (h : Nat) (A : Option Addr) (n c : Nat) (ws : List Int) (p : Nat) (w : World) (h16 : h ≤ 16) (hp : p < 2 * h) (hR : Ints w A ws) (hn : ws.length = n) (hmax : n ≤ maxLen) (hW : WordOK ws) :
    Calls Try.prog 92 #[.int .i64 ((2 * h : Nat) : Int), .slice A n c, .int .i64 (p : Int)] w fun e w' => e = .returned (.int .i64 ((goW h ws p : Nat) : Int)) ∧ w = w' := by
  have Hn := Lib.hid hn; have HW := Lib.hid hW
  have hni : (n : Int) ≤ 9223372036854775807 := by unfold maxLen at hmax; omega
  have HP := Lib.hid hp
  obtain ⟨L, hL⟩ : ∃ L : Int, L = ((2 * h : Nat) : Int) := ⟨_, rfl⟩
  have HL := Lib.hid hL
  rw [← hL]
  clear hn hW hp hL
  go_enter Try.func92, Try.ntmps92
  go_wp2
  go_loop [2, 7] (fun v i => ∃ k : Nat, k ≤ n ∧ i = .int .i64 k ∧ v = .int .i64 ((goW h (ws.take k) p : Nat) : Int)) (fun _ i => n - (intOf i).toNat)
  case atStart => exact ⟨0, Nat.zero_le _, rfl, rfl⟩
  case round =>
    obtain ⟨k, hk, rfl, rfl⟩ := hrel
    by_cases hlt : k < n
    · obtain ⟨b1, o1, x, rfl, hbl, hg, hc1⟩ := hR.at_ (k := k) (by rw [Hn.out]; exact hlt)
      have HT := Lib.hid (take_at hg)
      have HLT := Lib.hid (goW_lt (h := h) (HW.out.take k) HP.out)
      obtain ⟨m, hm1, hm2⟩ : ∃ m : Nat, m ≤ 1 ∧ x = (m : Int) := ⟨_, (HW.out.nat (List.mem_of_getElem? hg)).1, (HW.out.nat (List.mem_of_getElem? hg)).2⟩
      subst hm2
      obtain ⟨y, hy⟩ : ∃ y, y = goW h (ws.take k) p := ⟨_, rfl⟩
      have HY := Lib.hid hy
      rw [← hy]
      clear hg hy
      go_wp2_with fail
      rw [HL.out]
      refine (goes_any h m y _ h16 hm1 (by rw [HY.out]; exact HLT.out)).mono ?_
      rintro e w1 ⟨rfl, rfl⟩
      rw [← HL.out]
      go_wp2
      go_round
      case rel => exact ⟨k + 1, by omega, by go_num, by rw [HT.out, goW_app, ← HY.out]; rfl⟩
      case measure => simp [intOf]; omega
    · obtain rfl : k = n := by omega
      have HT := Lib.hid (show ws.take k = ws from List.take_of_length_le (by rw [Hn.out]; omega))
      rw [HT.out]
      go_wp2
      go_ret
      exact ⟨rfl, rfl⟩
theorem make_ints (h : Nat) (h16 : h ≤ 16) (W : World) : (Instr.makeSlice 22 (.int .i64 (2 * (h : Int))) (.int .i64 (2 * (h : Int)))).run Try.prog W = .ok (.slice (some ⟨W.heap.size, 0, none⟩) (2 * h) (2 * h)) (W.alloc (.cells (madeCells #[.int .i64 0] (2 * h)) 3)) := by
  have := run_make_row' (P := Try.prog) 22 3 (.int .i64 0) 8 Try.underlying22 infoInt rfl .i64 .i64 (2 * h) (by first | omega | (unfold maxLen; omega)) (by first | omega | (unfold maxLen; omega)) W
  rwa [Int.natCast_mul] at this
/-- What the document's fold has laid by round k. -/
def putF (h : Nat) (ws l : List Int) (k q : Nat) : Int := if unW h ws q < k then l.getD (unW h ws q) 0 else 0
theorem putF_zero (h : Nat) (ws l : List Int) (q : Nat) : putF h ws l 0 q = 0 := by unfold putF; rw [if_neg (by omega)]
theorem putF_step {h : Nat} {ws l : List Int} (hW : WordOK ws) {k : Nat} (hk : k < 2 * h) (q : Nat) (hq : q < 2 * h) : putF h ws l (k + 1) q = if q = goW h ws k then l.getD k 0 else putF h ws l k q := by
  unfold putF
  by_cases h1 : q = goW h ws k
  · subst h1
    rw [if_pos rfl, un_goW hW hk, if_pos (by omega)]
  · rw [if_neg h1]
    have h2 : unW h ws q ≠ k := fun e => h1 (by rw [← e, go_unW hW hq])
    by_cases h3 : unW h ws q < k
    · rw [if_pos (by omega), if_pos h3]
    · rw [if_neg (by omega), if_neg h3]
theorem putF_all {h : Nat} {ws l : List Int} {q : Nat} (hq : q < 2 * h) : putF h ws l (2 * h) q = l.getD (unW h ws q) 0 := by unfold putF; rw [if_pos (unW_lt ws hq)]
set_option maxRecDepth 100000 in
set_option maxHeartbeats 1000000 in
theorem rfold_any (h : Nat) (D : Option Addr) (d : Nat) (l : List Int) (A : Option Addr) (n c : Nat) (ws : List Int) (w : World) (h1 : 1 ≤ h) (h16 : h ≤ 16) (hD : Ints w D l) (hl : l.length = 2 * h) (hR : Ints w A ws) (hn : ws.length = n) (hmax : n ≤ maxLen) (hW : WordOK ws) :
    Calls Try.prog 81 #[.slice D (2 * h) d, .slice A n c] w (Made (2 * h) (fun q => l.getD (unW h ws q) 0) w) := by
  obtain ⟨b, o, rfl, hS⟩ := Seg.of_ints hD (by omega)
  rw [hl] at hS
  have hmk := make_ints h h16
  have hrow0 : Row (w.alloc (.cells (madeCells #[.int .i64 0] (2 * h)) 3)) w.heap.size (2 * h) (2 * h) (putF h ws l 0) := Row.whole _ _ _ _ _ fun i hi => by rw [putF_zero]; exact made_int _ i hi
  have HW := Lib.hid hW
  clear hD hl hW
  go_enter Try.func81, Try.ntmps81
  go_wp2
  go_loopw [6] (fun i wr => ∃ k : Nat, k ≤ 2 * h ∧ i = .int .i64 k ∧ Bel w wr ∧ Row wr w.heap.size (2 * h) (2 * h) (putF h ws l k)) (fun i _ => 2 * h - (intOf i).toNat)
  case atStart => exact ⟨0, Nat.zero_le _, rfl, by (repeat (first | exact Bel.refl _ | assumption | refine Bel.drew ?_ | refine Bel.drewN ?_ _ | refine Bel.alloc ?_ _ | refine Bel.setCell ?_ (by first | omega | (simp; done) | (simp; omega) | (simp at *; omega)) _ | refine Bel.trans ?_ (by assumption))), hrow0⟩
  case round =>
    clear hmk hrow0
    obtain ⟨k, hk, rfl, hb, hrow⟩ := hrel
    by_cases hlt : k < 2 * h
    · have hki : (k : Int) < 2 * (h : Int) := by omega
      have HP := Lib.hid (putF_step (l := l) HW.out hlt)
      have hgl := goW_lt (h := h) HW.out hlt
      obtain ⟨y, hy⟩ : ∃ y, y = goW h ws k := ⟨_, rfl⟩
      rw [← hy] at hgl
      have HY := Lib.hid hy
      clear hy
      obtain ⟨v, hv⟩ := hrow.all y hgl
      have hfz := hrow.fz y
      have hgz := hrow.lt
      have c1 := (hS.bel hb).cells k hlt
      have n1 := hS.lt
      obtain ⟨x, hx⟩ : ∃ x, x = l.getD k 0 := ⟨_, rfl⟩
      rw [← hx] at HP
      replace c1 : wr.cell? ⟨b, o + k, none⟩ = some (.int .i64 x) := by rw [hx]; exact c1
      have HXX := Lib.hid hx
      clear hx
      go_wp2
      go_region_with (go_at_call 92; refine (along_any h A n c ws k _ h16 hlt (hR.bel (by (repeat (first | exact Bel.refl _ | assumption | refine Bel.drew ?_ | refine Bel.drewN ?_ _ | refine Bel.alloc ?_ _ | refine Bel.setCell ?_ (by first | omega | (simp; done) | (simp; omega) | (simp at *; omega)) _ | refine Bel.trans ?_ (by assumption))))) hn hmax HW.out).mono ?_; rintro e w' ⟨rfl, rfl⟩; rw [← HY.out])
      all_goals go_wp2
      all_goals go_roundw
      all_goals first
        | exact ⟨k + 1, by omega, by go_num, by (repeat (first | exact Bel.refl _ | assumption | refine Bel.drew ?_ | refine Bel.drewN ?_ _ | refine Bel.alloc ?_ _ | refine Bel.setCell ?_ (by first | omega | (simp; done) | (simp; omega) | (simp at *; omega)) _ | refine Bel.trans ?_ (by assumption))), by first | exact (hrow.put hgl x).congr fun q hq => by rw [HP.out q hq, ← HY.out] | exact ((hrow.put hgl x).congr fun q hq => by rw [HP.out q hq, ← HY.out]).drew⟩
        | (simp [intOf]; omega)
    · obtain rfl : k = 2 * h := by omega
      go_wp2
      go_ret
      exact ⟨_, rfl, Nat.le_refl _, hb, hrow.congr fun i hi => (putF_all hi).symm⟩
end Go.Proofs.Ythjjpmcefiddmaa
