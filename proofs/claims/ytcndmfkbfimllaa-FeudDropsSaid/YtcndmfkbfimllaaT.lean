/- The document's Feud, alike, IsSet: which paints have feuds, and which sets are alike. -/
import Derived.Test.YtcndmfkbfimllaaS
namespace Go.Proofs.Ytcndmfkbfimllaa
open Go.RowKit Go.Maps

theorem inG_iff {G : List (Nat × Nat)} {f : Nat × Nat} : inG G f = true ↔ f ∈ G := by unfold inG; exact List.contains_iff_mem
theorem inG_no {G : List (Nat × Nat)} {f : Nat × Nat} : inG G f = false ↔ f ∉ G := by rw [← inG_iff]; simp
theorem mem_step {α : Type} {F : List α} {m : Nat} {f g : α} (h : F[m]? = some f) (hn : g ∉ F.take m) (hne : g ≠ f) : g ∉ F.take (m + 1) := by
  rw [take_at h, List.mem_append, List.mem_singleton]
  rintro (h | h)
  · exact hn h
  · exact hne h
set_option maxRecDepth 100000 in
set_option maxHeartbeats 1000000 in
theorem rFeud1 (p : Int) (A : Option Addr) (n c : Nat) (G : List (Nat × Nat)) (a b : Nat) (w : World) (hR : Prs w A (up G)) (hn : G.length = n) (h60 : n ≤ 900) (hab : a < b) :
    Calls Try.prog 81 #[.agg #[.int .i64 p, .slice A n c], .int .i64 (a : Int), .int .i64 (b : Int)] w fun e w' => e = .returned (.bool (inG G (a, b))) ∧ Bel w w' := by
  have Hn := Lib.hid hn
  have hm : (n : Int) ≤ 900 := by omega
  have hlt0 : (a : Int) < (b : Int) := by omega
  clear hn
  have Held := Lib.hid (fun w' (h : Bel (w.alloc (.cells #[.int .i64 p, .slice A n c] 24)) w') => pair_box h)
  go_enter Try.func81, Try.ntmps81
  go_wp2
  go_loopw [7] (fun i wr => ∃ k : Nat, k ≤ n ∧ i = .int .i64 k ∧ Bel (w.alloc (.cells #[.int .i64 p, .slice A n c] 24)) wr ∧ (a, b) ∉ G.take k) (fun i _ => n - (intOf i).toNat)
  case atStart => exact ⟨0, Nat.zero_le _, rfl, Bel.refl _, by simp⟩
  case round =>
    obtain ⟨k, hk, rfl, hbb, hni⟩ := hrel
    have HNI := Lib.hid hni
    obtain ⟨b0, b1⟩ := Held.out _ hbb
    have hbw : Bel w wr := ((Bel.refl w).alloc _).trans hbb
    clear hni
    by_cases hlt : k < n
    · have hkn : (k : Int) < (n : Int) := by omega
      obtain ⟨b', o, x, y, rfl, hbl, hg, hc1, hc2⟩ := up_at (hR.bel hbw) (k := k) (by rw [Hn.out]; exact hlt)
      have HG := Lib.hid hg
      clear hg
      by_cases hx : x = a
      · subst x
        by_cases hy : y = b
        · subst y
          have HF := Lib.hid (inG_iff.2 (List.mem_of_getElem? HG.out))
          go_wp2
          go_ret
          exact ⟨ret_bool HF.out.symm, by (repeat (first | exact Bel.refl _ | assumption | refine Bel.drew ?_ | refine Bel.drewN ?_ _ | refine Bel.alloc ?_ _ | refine Bel.setCell ?_ (by first | omega | (simp; done) | (simp; omega) | (simp at *; omega)) _ | refine Bel.trans ?_ (by assumption)))⟩
        · have HN2 := Lib.hid (mem_step HG.out HNI.out (fun e => hy (by injection e with e1 e2; exact e2.symm)))
          have hyn : (y == b) = false := by simpa using hy
          have hyi : ((y : Int) == (b : Int)) = false := by simpa using (fun e : (y : Int) = (b : Int) => hy (by omega))
          clear hy
          go_wp2
          go_roundw
          case rel => exact ⟨k + 1, by omega, by go_num, hbb, HN2.out⟩
          case measure => simp [intOf]; omega
      · have HN2 := Lib.hid (mem_step HG.out HNI.out (fun e => hx (by injection e with e1 e2; exact e1.symm)))
        have hxn : (x == a) = false := by simpa using hx
        have hxi : ((x : Int) == (a : Int)) = false := by simpa using (fun e : (x : Int) = (a : Int) => hx (by omega))
        clear hx
        go_wp2
        go_roundw
        case rel => exact ⟨k + 1, by omega, by go_num, hbb, HN2.out⟩
        case measure => simp [intOf]; omega
    · obtain rfl : k = n := by omega
      have HF := Lib.hid (inG_no.2 (by have := HNI.out; rwa [List.take_of_length_le (by rw [Hn.out]; omega)] at this))
      go_wp2
      go_ret
      exact ⟨ret_bool HF.out.symm, by (repeat (first | exact Bel.refl _ | assumption | refine Bel.drew ?_ | refine Bel.drewN ?_ _ | refine Bel.alloc ?_ _ | refine Bel.setCell ?_ (by first | omega | (simp; done) | (simp; omega) | (simp at *; omega)) _ | refine Bel.trans ?_ (by assumption)))⟩
set_option maxRecDepth 100000 in
set_option maxHeartbeats 1000000 in
theorem rFeud2 (p : Int) (A : Option Addr) (n c : Nat) (G : List (Nat × Nat)) (a b : Nat) (w : World) (hR : Prs w A (up G)) (hn : G.length = n) (h60 : n ≤ 900) (hab : b < a) :
    Calls Try.prog 81 #[.agg #[.int .i64 p, .slice A n c], .int .i64 (a : Int), .int .i64 (b : Int)] w fun e w' => e = .returned (.bool (inG G (b, a))) ∧ Bel w w' := by
  have Hn := Lib.hid hn
  have hm : (n : Int) ≤ 900 := by omega
  have hlt0 : (b : Int) < (a : Int) := by omega
  clear hn
  have Held := Lib.hid (fun w' (h : Bel (w.alloc (.cells #[.int .i64 p, .slice A n c] 24)) w') => pair_box h)
  go_enter Try.func81, Try.ntmps81
  go_wp2
  go_loopw [7] (fun i wr => ∃ k : Nat, k ≤ n ∧ i = .int .i64 k ∧ Bel (w.alloc (.cells #[.int .i64 p, .slice A n c] 24)) wr ∧ (b, a) ∉ G.take k) (fun i _ => n - (intOf i).toNat)
  case atStart => exact ⟨0, Nat.zero_le _, rfl, Bel.refl _, by simp⟩
  case round =>
    obtain ⟨k, hk, rfl, hbb, hni⟩ := hrel
    have HNI := Lib.hid hni
    obtain ⟨b0, b1⟩ := Held.out _ hbb
    have hbw : Bel w wr := ((Bel.refl w).alloc _).trans hbb
    clear hni
    by_cases hlt : k < n
    · have hkn : (k : Int) < (n : Int) := by omega
      obtain ⟨b', o, x, y, rfl, hbl, hg, hc1, hc2⟩ := up_at (hR.bel hbw) (k := k) (by rw [Hn.out]; exact hlt)
      have HG := Lib.hid hg
      clear hg
      by_cases hx : x = b
      · subst x
        by_cases hy : y = a
        · subst y
          have HF := Lib.hid (inG_iff.2 (List.mem_of_getElem? HG.out))
          go_wp2
          go_ret
          exact ⟨ret_bool HF.out.symm, by (repeat (first | exact Bel.refl _ | assumption | refine Bel.drew ?_ | refine Bel.drewN ?_ _ | refine Bel.alloc ?_ _ | refine Bel.setCell ?_ (by first | omega | (simp; done) | (simp; omega) | (simp at *; omega)) _ | refine Bel.trans ?_ (by assumption)))⟩
        · have HN2 := Lib.hid (mem_step HG.out HNI.out (fun e => hy (by injection e with e1 e2; exact e2.symm)))
          have hyn : (y == a) = false := by simpa using hy
          have hyi : ((y : Int) == (a : Int)) = false := by simpa using (fun e : (y : Int) = (a : Int) => hy (by omega))
          clear hy
          go_wp2
          go_roundw
          case rel => exact ⟨k + 1, by omega, by go_num, hbb, HN2.out⟩
          case measure => simp [intOf]; omega
      · have HN2 := Lib.hid (mem_step HG.out HNI.out (fun e => hx (by injection e with e1 e2; exact e1.symm)))
        have hxn : (x == b) = false := by simpa using hx
        have hxi : ((x : Int) == (b : Int)) = false := by simpa using (fun e : (x : Int) = (b : Int) => hx (by omega))
        clear hx
        go_wp2
        go_roundw
        case rel => exact ⟨k + 1, by omega, by go_num, hbb, HN2.out⟩
        case measure => simp [intOf]; omega
    · obtain rfl : k = n := by omega
      have HF := Lib.hid (inG_no.2 (by have := HNI.out; rwa [List.take_of_length_le (by rw [Hn.out]; omega)] at this))
      go_wp2
      go_ret
      exact ⟨ret_bool HF.out.symm, by (repeat (first | exact Bel.refl _ | assumption | refine Bel.drew ?_ | refine Bel.drewN ?_ _ | refine Bel.alloc ?_ _ | refine Bel.setCell ?_ (by first | omega | (simp; done) | (simp; omega) | (simp at *; omega)) _ | refine Bel.trans ?_ (by assumption)))⟩
set_option maxRecDepth 100000 in
set_option maxHeartbeats 1000000 in
theorem rFeud3 (p : Int) (A : Option Addr) (n c : Nat) (G : List (Nat × Nat)) (a : Nat) (w : World) (hR : Prs w A (up G)) (hn : G.length = n) (h60 : n ≤ 900) :
    Calls Try.prog 81 #[.agg #[.int .i64 p, .slice A n c], .int .i64 (a : Int), .int .i64 (a : Int)] w fun e w' => e = .returned (.bool (inG G (a, a))) ∧ Bel w w' := by
  have Hn := Lib.hid hn
  have hm : (n : Int) ≤ 900 := by omega
  clear hn
  have Held := Lib.hid (fun w' (h : Bel (w.alloc (.cells #[.int .i64 p, .slice A n c] 24)) w') => pair_box h)
  go_enter Try.func81, Try.ntmps81
  go_wp2
  go_loopw [7] (fun i wr => ∃ k : Nat, k ≤ n ∧ i = .int .i64 k ∧ Bel (w.alloc (.cells #[.int .i64 p, .slice A n c] 24)) wr ∧ (a, a) ∉ G.take k) (fun i _ => n - (intOf i).toNat)
  case atStart => exact ⟨0, Nat.zero_le _, rfl, Bel.refl _, by simp⟩
  case round =>
    obtain ⟨k, hk, rfl, hbb, hni⟩ := hrel
    have HNI := Lib.hid hni
    obtain ⟨b0, b1⟩ := Held.out _ hbb
    have hbw : Bel w wr := ((Bel.refl w).alloc _).trans hbb
    clear hni
    by_cases hlt : k < n
    · have hkn : (k : Int) < (n : Int) := by omega
      obtain ⟨b', o, x, y, rfl, hbl, hg, hc1, hc2⟩ := up_at (hR.bel hbw) (k := k) (by rw [Hn.out]; exact hlt)
      have HG := Lib.hid hg
      clear hg
      by_cases hx : x = a
      · subst x
        by_cases hy : y = a
        · subst y
          have HF := Lib.hid (inG_iff.2 (List.mem_of_getElem? HG.out))
          go_wp2
          go_ret
          exact ⟨ret_bool HF.out.symm, by (repeat (first | exact Bel.refl _ | assumption | refine Bel.drew ?_ | refine Bel.drewN ?_ _ | refine Bel.alloc ?_ _ | refine Bel.setCell ?_ (by first | omega | (simp; done) | (simp; omega) | (simp at *; omega)) _ | refine Bel.trans ?_ (by assumption)))⟩
        · have HN2 := Lib.hid (mem_step HG.out HNI.out (fun e => hy (by injection e with e1 e2; exact e2.symm)))
          have hyn : (y == a) = false := by simpa using hy
          have hyi : ((y : Int) == (a : Int)) = false := by simpa using (fun e : (y : Int) = (a : Int) => hy (by omega))
          clear hy
          go_wp2
          go_roundw
          case rel => exact ⟨k + 1, by omega, by go_num, hbb, HN2.out⟩
          case measure => simp [intOf]; omega
      · have HN2 := Lib.hid (mem_step HG.out HNI.out (fun e => hx (by injection e with e1 e2; exact e1.symm)))
        have hxn : (x == a) = false := by simpa using hx
        have hxi : ((x : Int) == (a : Int)) = false := by simpa using (fun e : (x : Int) = (a : Int) => hx (by omega))
        clear hx
        go_wp2
        go_roundw
        case rel => exact ⟨k + 1, by omega, by go_num, hbb, HN2.out⟩
        case measure => simp [intOf]; omega
    · obtain rfl : k = n := by omega
      have HF := Lib.hid (inG_no.2 (by have := HNI.out; rwa [List.take_of_length_le (by rw [Hn.out]; omega)] at this))
      go_wp2
      go_ret
      exact ⟨ret_bool HF.out.symm, by (repeat (first | exact Bel.refl _ | assumption | refine Bel.drew ?_ | refine Bel.drewN ?_ _ | refine Bel.alloc ?_ _ | refine Bel.setCell ?_ (by first | omega | (simp; done) | (simp; omega) | (simp at *; omega)) _ | refine Bel.trans ?_ (by assumption)))⟩
theorem rFeud_any (p : Int) (A : Option Addr) (n c : Nat) (G : List (Nat × Nat)) (a b : Nat) (w : World) (hR : Prs w A (up G)) (hn : G.length = n) (h60 : n ≤ 900) :
    Calls Try.prog 81 #[.agg #[.int .i64 p, .slice A n c], .int .i64 (a : Int), .int .i64 (b : Int)] w fun e w' => e = .returned (.bool (hasG G a b)) ∧ Bel w w' := by
  rcases (by omega : a < b ∨ b < a ∨ a = b) with h | h | rfl
  · rw [show hasG G a b = inG G (a, b) by unfold hasG; rw [Nat.min_eq_left (by omega), Nat.max_eq_right (by omega)]]
    exact rFeud1 p A n c G a b w hR hn h60 h
  · rw [show hasG G a b = inG G (b, a) by unfold hasG; rw [Nat.min_eq_right (by omega), Nat.max_eq_left (by omega)]]
    exact rFeud2 p A n c G a b w hR hn h60 h
  · rw [show hasG G a a = inG G (a, a) by unfold hasG; rw [Nat.min_self, Nat.max_self]]
    exact rFeud3 p A n c G a w hR hn h60
end Go.Proofs.Ytcndmfkbfimllaa
