/- Left, Grade and State: the document's and the program's. -/
import Derived.Test.YtogeackcnmeooaaKK
import Derived.Test.YtogeackcnmeooaaKD
namespace Go.Proofs.Ytogeackcnmeooaa
open Go.RowKit

theorem countL_at {L : List An} {g k : Nat} {v : Int} (h : (countL L g)[k]? = some v) : k < g ∧ v = cntI L k := by
  unfold countL at h
  simp only [List.getElem?_map, Option.map_eq_some_iff] at h
  obtain ⟨i, hi, rfl⟩ := h
  obtain ⟨hl, e⟩ := List.getElem?_eq_some_iff.1 hi
  simp at hl e
  subst e
  exact ⟨hl, rfl⟩

set_option maxRecDepth 100000 in
set_option maxHeartbeats 2000000 in
theorem rleft_any (g : Nat) (A : Option Addr) (n c : Nat) (L : List An) (lies : Int) (w : World) (hR : Ans w A L) (hn : L.length = n) (h12 : n ≤ 12) (hg : g ≤ 16) :
    Calls Try.prog 91 #[.int .i64 (g : Int), .slice A n c, .int .i64 lies] w (News w (leftL L g lies)) := by
  have Hn := Lib.hid hn
  have hgi : (g : Int) ≤ 16 := by omega
  obtain ⟨i0, hi, hz0, hz1, hz2⟩ := info_parts info1I
  clear hn
  go_enter Try.func91, Try.ntmps91
  go_wp2_with fail
  refine (ragainst_any g A n c L _ hR Hn.out h12 hg).mono ?_
  rintro e w1 ⟨A1, n1, c1, rfl, hn1, hb1, hI1⟩
  rw [countL_length] at hn1
  have HN1 := Lib.hid hn1
  have hn1i : (n1 : Int) = g := by omega
  have hws : w.heap.size ≤ w1.heap.size := hb1.size
  have HN1I := Lib.hid hn1i
  clear hn1 hn1i
  go_wp2
  go_loopw [8, 9] (fun v i wr => ∃ k : Nat, k ≤ g ∧ i = .int .i64 k ∧ Bel w1 wr ∧ Own1 3 w1.heap.size wr v (leftL L k lies)) (fun _ i _ => g - (intOf i).toNat)
  case atStart => exact ⟨0, Nat.zero_le _, rfl, Bel.refl _, Own1.nil _ _ _⟩
  case round =>
    obtain ⟨k, hk, rfl, hb, hO⟩ := hrel
    by_cases hlt : k < g
    · obtain ⟨b, o, v0, hA1, hbl, hgk, hcell⟩ := (hI1.bel hb).at_ (k := k) (by rw [countL_length]; exact hlt)
      have hA1' := hA1
      subst hA1
      obtain ⟨_, hv⟩ := countL_at hgk
      have hkg : (k : Int) < (g : Int) := by omega
      have hkn : (k : Int) < (n1 : Int) := by have := HN1I.out; omega
      have hknn : k < n1 := by have := HN1.out; omega
      have HS := Lib.hid (leftL_snoc L k lies)
      have hl := leftL_len L k lies
      obtain ⟨l, hll⟩ : ∃ l, l = leftL L k lies := ⟨_, rfl⟩
      rw [← hll] at hO hl
      have HL := Lib.hid hll; have HV := Lib.hid hv
      have hbs := hb.size
      clear hll hv hgk hA1'
      have hX1 := Lib.hid (show l.length + 1 ≤ maxLen by unfold maxLen; omega)
      have hX2 := Lib.hid (show (l.length + 1) * 8 ≤ 140737488355328 by omega)
      by_cases hle : v0 ≤ lies
      · have HQ : Hid (leftL L (k + 1) lies = l ++ [(k : Int)]) := by show _ = _; rw [HS.out, ← HV.out, if_pos hle, HL.out]
        go_wp2_with (at_builtin; go_loud (refine wpList_append_lies _ rfl (.tmp 24) (.tmp 26) 36 rfl w1.heap.size 3 i0 _ 1 8 Try.underlying36 hi hz0 hz1 hz2 rfl (by decide) u8 l.length (l.map fun x => .int .i64 x) (by rfl) (hO.alloc _) ⟨wr.heap.size, 0, none⟩ 1 1 [.int .i64 (k : Int)] (by rfl) rfl (new1 wr _ _ _ rfl) (one1 _) (by omega) hX1.out hX2.out (Nat.le_trans hbs (by simp)) _ rfl ?_); intro g3 cap3 w3 hown3 hgr3 _ hlt3)
        obtain ⟨hB3, hs3, hblk⟩ := after_app hb (Nat.le_refl _) hO hbs hgr3
        have hO3 := Own1.snoc hown3
        clear hown3 hgr3 hlt3 hblk hb hO hcell
        go_roundw
        case rel => exact ⟨k + 1, by omega, by go_num, hB3, by rw [HQ.out]; exact hO3⟩
        case measure => simp [intOf]; omega
      · have HQ : Hid (leftL L (k + 1) lies = l) := by show _ = _; rw [HS.out, ← HV.out, if_neg hle, HL.out]; simp
        go_wp2
        go_roundw
        case rel => exact ⟨k + 1, by omega, by go_num, hb, by rw [HQ.out]; exact hO⟩
        case measure => simp [intOf]; omega
    · obtain rfl : k = g := by omega
      obtain ⟨A', n', c', rfl, hn', hI⟩ := hO.form
      have HN := Lib.hid hn'
      clear hn' hO
      go_wp2
      go_ret
      exact ⟨A', n', c', rfl, HN.out, hb1.trans hb, hI⟩

/-- What Left refuses. -/
def errL (g : Int) (L : List An) (lies : Int) : Int := if errA g L = 0 then if 0 ≤ lies ∧ lies ≤ 12 then 0 else 1 else errA g L
theorem errL_bad {g : Int} {L : List An} {lies : Int} (h : errA g L ≠ 0) : errL g L lies = errA g L := if_neg h
theorem errL_lies {g : Int} {L : List An} {lies : Int} (h : errA g L = 0) (h2 : ¬ (0 ≤ lies ∧ lies ≤ 12)) : errL g L lies = 1 := by unfold errL; rw [if_pos h, if_neg h2]
theorem errL_ok {g : Int} {L : List An} {lies : Int} (h : errA g L = 0) (h2 : 0 ≤ lies ∧ lies ≤ 12) : errL g L lies = 0 := by unfold errL; rw [if_pos h, if_pos h2]
theorem errL_zero {g : Int} {L : List An} {lies : Int} (h : errL g L lies = 0) : errA g L = 0 ∧ 0 ≤ lies ∧ lies ≤ 12 := by
  unfold errL at h
  split at h
  · split at h
    · exact ⟨by assumption, by assumption⟩
    · omega
  · exact absurd h (by assumption)
theorem wLeft_err (g : Int) (A : Option Addr) (n c : Nat) (L : List An) (lies : Int) (w : World) (hR : Ans w A L) (hn : L.length = n) (hmax : n ≤ maxLen) (he : errL g L lies ≠ 0) :
    Calls Try.prog 58 #[.int .i64 g, .slice A n c, .int .i64 lies] w fun e w' => e = .returned (.tuple #[.slice none 0 0, .int .i64 (errL g L lies)]) ∧ Bel w w' := by
  by_cases h : errA g L = 0
  · have h2 : ¬ (0 ≤ lies ∧ lies ≤ 12) := fun k => he (errL_ok h k)
    rw [errL_lies h h2]
    have HE := Lib.hid h
    clear h he
    rcases (by omega : lies < 0 ∨ 12 < lies) with h1 | h1
    · go_enter Try.func58, Try.ntmps58
      go_wp2_with fail
      refine (validate_any g A n c L _ hR hn hmax).mono ?_
      rintro e w1 ⟨rfl, hb1⟩
      rw [HE.out]
      go_wp2
      go_ret2
      exact ⟨rfl, hb1⟩
    · have h3 : 0 ≤ lies := by omega
      go_enter Try.func58, Try.ntmps58
      go_wp2_with fail
      refine (validate_any g A n c L _ hR hn hmax).mono ?_
      rintro e w1 ⟨rfl, hb1⟩
      rw [HE.out]
      go_wp2
      go_ret2
      exact ⟨rfl, hb1⟩
  · rw [errL_bad h]
    have hne : (errA g L != 0) = true := by simpa using h
    clear he
    go_enter Try.func58, Try.ntmps58
    go_wp2_with fail
    refine (validate_any g A n c L _ hR hn hmax).mono ?_
    rintro e w1 ⟨rfl, hb1⟩
    go_wp2
    go_ret2
    exact ⟨rfl, hb1⟩
theorem rLeft_err (g : Int) (A : Option Addr) (n c : Nat) (L : List An) (lies : Int) (w : World) (hR : Ans w A L) (hn : L.length = n) (hmax : n ≤ maxLen) (he : errL g L lies ≠ 0) :
    Calls Try.prog 56 #[.int .i64 g, .slice A n c, .int .i64 lies] w fun e w' => e = .returned (.tuple #[.slice none 0 0, .int .i64 (errL g L lies)]) ∧ Bel w w' := by
  by_cases h : errA g L = 0
  · have h2 : ¬ (0 ≤ lies ∧ lies ≤ 12) := fun k => he (errL_ok h k)
    rw [errL_lies h h2]
    have HE := Lib.hid h; have H2 := Lib.hid h2
    clear h he h2
    go_enter Try.func56, Try.ntmps56
    go_wp2_with fail
    refine (rValidate_any g A n c L _ hR hn hmax).mono ?_
    rintro e w1 ⟨rfl, hb1⟩
    rw [HE.out]
    go_wp2_with fail
    refine (within_no _ _ _ _ H2.out).mono ?_
    rintro e w2 ⟨rfl, rfl⟩
    go_wp2
    go_ret2
    exact ⟨rfl, hb1⟩
  · rw [errL_bad h]
    have hne : (errA g L != 0) = true := by simpa using h
    clear he
    go_enter Try.func56, Try.ntmps56
    go_wp2_with fail
    refine (rValidate_any g A n c L _ hR hn hmax).mono ?_
    rintro e w1 ⟨rfl, hb1⟩
    go_wp2
    go_ret2
    exact ⟨rfl, hb1⟩
theorem wLeft_ok (g : Nat) (A : Option Addr) (n c : Nat) (L : List An) (lies : Int) (w : World) (hR : Ans w A L) (hn : L.length = n) (hmax : n ≤ maxLen) (he : errL (g : Int) L lies = 0) :
    Calls Try.prog 58 #[.int .i64 (g : Int), .slice A n c, .int .i64 lies] w (NewsOk w (leftL L g lies)) := by
  obtain ⟨he, l1, l2⟩ := errL_zero he
  obtain ⟨⟨g1, g2⟩, h12, _⟩ := errA_zero he
  rw [hn] at h12
  have HE := Lib.hid he
  have Hn := Lib.hid hn; have HX := Lib.hid hmax
  clear he hn hmax
  go_enter Try.func58, Try.ntmps58
  go_wp2_with fail
  refine (validate_any g A n c L _ hR Hn.out HX.out).mono ?_
  rintro e w1 ⟨rfl, hb1⟩
  rw [HE.out]
  go_wp2_with fail
  refine (left_any g A n c L lies _ (hR.bel hb1) Hn.out h12 (by omega)).mono ?_
  rintro e w2 ⟨A', n', c', rfl, hn', hb2, hI⟩
  have HN := Lib.hid hn'
  clear hn'
  go_wp2
  go_ret2
  exact ⟨A', n', c', rfl, HN.out, hb1.trans hb2, hI⟩
theorem rLeft_ok (g : Nat) (A : Option Addr) (n c : Nat) (L : List An) (lies : Int) (w : World) (hR : Ans w A L) (hn : L.length = n) (hmax : n ≤ maxLen) (he : errL (g : Int) L lies = 0) :
    Calls Try.prog 56 #[.int .i64 (g : Int), .slice A n c, .int .i64 lies] w (NewsOk w (leftL L g lies)) := by
  obtain ⟨he, l1, l2⟩ := errL_zero he
  obtain ⟨⟨g1, g2⟩, h12, _⟩ := errA_zero he
  rw [hn] at h12
  have HE := Lib.hid he
  have Hn := Lib.hid hn; have HX := Lib.hid hmax
  clear he hn hmax
  go_enter Try.func56, Try.ntmps56
  go_wp2_with fail
  refine (rValidate_any g A n c L _ hR Hn.out HX.out).mono ?_
  rintro e w1 ⟨rfl, hb1⟩
  rw [HE.out]
  go_wp2_with fail
  refine (within_yes _ _ _ _ ⟨l1, l2⟩).mono ?_
  rintro e w2 ⟨rfl, rfl⟩
  go_wp2_with fail
  refine (rleft_any g A n c L lies _ (hR.bel hb1) Hn.out h12 (by omega)).mono ?_
  rintro e w2 ⟨A', n', c', rfl, hn', hb2, hI⟩
  have HN := Lib.hid hn'
  clear hn'
  go_wp2
  go_ret2
  exact ⟨A', n', c', rfl, HN.out, hb1.trans hb2, hI⟩
end Go.Proofs.Ytogeackcnmeooaa
