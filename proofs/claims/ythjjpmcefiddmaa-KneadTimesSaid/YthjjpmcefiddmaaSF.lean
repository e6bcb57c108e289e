/- Rounds of both; Sum. -/
import Derived.Test.YthjjpmcefiddmaaSE
import Derived.Test.YthjjpmcefiddmaaSC
import Derived.Test.YthjjpmcefiddmaaSA
namespace Go.Proofs.Ythjjpmcefiddmaa
open Go.RowKit

attribute [local go_sem] Oper.semAt_some

theorem cntG_le (h k len : Nat) : ∀ s, cntG h k len s ≤ s
  | 0 => by simp [cntG]
  | s + 1 => by
    rw [cntG_succ]
    have := cntG_le h k len s
    split <;> omega
theorem refR_len (h k : Nat) : ∀ s, (refR h k s).length ≤ 2 * h * s
  | 0 => by simp [refR]
  | s + 1 => by
    rw [refR_succ, List.length_append, List.length_replicate, Nat.mul_succ]
    have h1 := refR_len h k s
    have h2 := cntG_le h k (s + 1) (2 * h)
    have h3 := Nat.div_le_self (cntG h k (s + 1) (2 * h)) (s + 1)
    omega
/-- A list of its own, with no error. -/
def OwnV (l : List Int) (w : World) (e : Ending) (w' : World) : Prop := ∃ A n c, e = .returned (.tuple #[.slice A n c, .int .i64 0]) ∧ n = l.length ∧ Bel w w' ∧ Ints w' A l
set_option maxRecDepth 100000 in
set_option maxHeartbeats 2000000 in
theorem rrounds_ok (h k : Nat) (w : World) (h1 : 1 ≤ h) (h16 : h ≤ 16) (hk : k ≤ 1) :
    Calls Try.prog 25 #[.int .i64 ((2 * h : Nat) : Int), .int .i64 (k : Int)] w (OwnV (refR h k (2 * h)) w) := by
  obtain ⟨i0, hi, hz0, hz1, hz2⟩ := info_parts info1I
  obtain ⟨L, hL⟩ : ∃ L : Int, L = ((2 * h : Nat) : Int) := ⟨_, rfl⟩
  have HL := Lib.hid hL
  obtain ⟨K, hK⟩ : ∃ K : Int, K = (k : Int) := ⟨_, rfl⟩
  have HK := Lib.hid hK
  have HKE := Lib.hid (show decide (eK L K = 0) = true from decide_eq_true (by rw [hL, hK]; exact eK_ok h1 h16 hk))
  have HLh := Lib.hid (show L = 2 * (h : Int) by omega)
  rw [← hL, ← hK]
  clear hL hK
  go_enter Try.func25, Try.ntmps25
  go_wp2_with fail
  refine (kinded_any L K _).mono ?_
  rintro e w1 ⟨rfl, hw⟩
  subst hw
  rw [HKE.out]
  go_wp2
  go_loopw [6, 7, 8, 9, 10] (fun v lv _ _ _ wr => ∃ j : Nat, j ≤ 2 * h ∧ lv = .int .i64 ((j : Int) + 1) ∧ Bel w wr ∧ Own1 3 w.heap.size wr v (refR h k j)) (fun _ lv _ _ _ _ => 2 * h + 1 - (intOf lv).toNat)
  case atStart => exact ⟨0, Nat.zero_le _, by go_num, Bel.refl _, Own1.nil _ _ _⟩
  case round =>
    obtain ⟨j, hj, rfl, hb, hO⟩ := hrel
    by_cases hlt : j < 2 * h
    · have hji : (j : Int) + 1 ≤ L := by have := HLh.out; omega
      have hji2 : (j : Int) + 1 ≤ 32 := by omega
      obtain ⟨ll, hll⟩ : ∃ ll, ll = refR h k j := ⟨_, rfl⟩
      have HLL := Lib.hid hll
      have HLEN : Hid (ll.length ≤ 1024) := by
        show _ ≤ _
        rw [hll]
        have h5 := refR_len h k j
        have h6 : 2 * h * j ≤ 32 * j := Nat.mul_le_mul_right j (by omega)
        omega
      rw [← hll] at hO
      clear hll
      go_wp2
      go_loopw [8, 9] (fun cv pv wq => ∃ p : Nat, p ≤ 2 * h ∧ pv = .int .i64 (p : Int) ∧ cv = .int .i64 ((cntG h k (j + 1) p : Nat) : Int) ∧ Bel w wq ∧ Own1 3 w.heap.size wq u6 ll) (fun _ pv _ => 2 * h - (intOf pv).toNat)
      case atStart => exact ⟨0, Nat.zero_le _, rfl, rfl, hb, hO⟩
      case round =>
        clear hb hO
        obtain ⟨p, hp, rfl, rfl, hbq, hOq⟩ := hrel
        by_cases hlp : p < 2 * h
        · have hpi : (p : Int) < L := by have := HLh.out; omega
          have HSU := Lib.hid (cntG_succ h k (j + 1) p)
          have hcl := cntG_le h k (j + 1) p
          obtain ⟨c, hc⟩ : ∃ c, c = cycG h k p := ⟨_, rfl⟩
          obtain ⟨x, hx⟩ : ∃ x, x = cntG h k (j + 1) p := ⟨_, rfl⟩
          rw [← hc, ← hx] at HSU
          rw [← hx] at hcl ⊢
          have HC := Lib.hid hc
          have hxi : (x : Int) ≤ 32 := by omega
          clear hc hx hcl
          by_cases he : c = j + 1
          · have hd : ((c : Int) == (j : Int) + 1) = true := by simpa using (show (c : Int) = (j : Int) + 1 by omega)
            have hd2 : (c : Int) = (j : Int) + 1 := by omega
            rw [if_pos he] at HSU
            clear he
            go_wp2_with fail
            rw [HL.out, HK.out]
            refine (cycle_any h k p _ h1 h16 hk hlp).mono ?_
            rintro e w1 ⟨rfl, hw⟩
            subst hw
            rw [← HL.out, ← HK.out, ← HC.out]
            go_wp2
            go_roundw
            case rel => exact ⟨p + 1, by omega, by go_num, by rw [HSU.out]; go_num, hbq, hOq⟩
            case measure => simp [intOf]; omega
          · have hd : ((c : Int) == (j : Int) + 1) = false := by simpa using (show ¬ (c : Int) = (j : Int) + 1 by omega)
            have hd2 : ¬ (c : Int) = (j : Int) + 1 := by omega
            rw [if_neg he] at HSU
            clear he
            go_wp2_with fail
            rw [HL.out, HK.out]
            refine (cycle_any h k p _ h1 h16 hk hlp).mono ?_
            rintro e w1 ⟨rfl, hw⟩
            subst hw
            rw [← HL.out, ← HK.out, ← HC.out]
            go_wp2
            go_roundw
            case rel => exact ⟨p + 1, by omega, by go_num, by rw [HSU.out], hbq, hOq⟩
            case measure => simp [intOf]; omega
        · obtain rfl : p = 2 * h := by omega
          have hpi : ((2 * h : Nat) : Int) = L := by have := HLh.out; omega
          have HRS := Lib.hid (refR_succ h k j)
          rw [← HLL.out] at HRS
          have hcl := cntG_le h k (j + 1) (2 * h)
          obtain ⟨x, hx⟩ : ∃ x, x = cntG h k (j + 1) (2 * h) := ⟨_, rfl⟩
          rw [← hx] at HRS hcl ⊢
          obtain ⟨q, hq⟩ : ∃ q, q = x / (j + 1) := ⟨_, rfl⟩
          rw [← hq] at HRS
          have hq1 : Int.tdiv (x : Int) ((j : Int) + 1) = (q : Int) := by rw [Int.tdiv_eq_ediv_of_nonneg (by omega), hq]; rfl
          have hq2 : (x : Int) / ((j : Int) + 1) = (q : Int) := by rw [hq]; rfl
          have hqx : q ≤ 32 := by have := Nat.div_le_self x (j + 1); omega
          have hxi : (x : Int) ≤ 32 := by omega
          rw [hpi]
          clear hpi hx hq hcl
          go_wp2
          go_loopw [6, 10] (fun v iv wq => ∃ i : Nat, i ≤ q ∧ iv = .int .i64 (i : Int) ∧ Bel w wq ∧ Own1 3 w.heap.size wq v (ll ++ List.replicate i ((j + 1 : Nat) : Int))) (fun _ iv _ => q - (intOf iv).toNat)
          case atStart => exact ⟨0, Nat.zero_le _, rfl, hbq, by simpa using hOq⟩
          case round =>
            clear hbq hOq
            obtain ⟨i, hiq, rfl, hbz, hOz⟩ := hrel
            by_cases hil : i < q
            · have hii : (i : Int) < (q : Int) := by omega
              have hi32 : (q : Int) ≤ 32 := by omega
              have HRP : Hid (ll ++ List.replicate (i + 1) ((j + 1 : Nat) : Int) = (ll ++ List.replicate i ((j + 1 : Nat) : Int)) ++ [((j + 1 : Nat) : Int)]) := by
                show _ = _
                rw [List.replicate_succ', List.append_assoc]
              obtain ⟨l2, hl2⟩ : ∃ l2, l2 = ll ++ List.replicate i ((j + 1 : Nat) : Int) := ⟨_, rfl⟩
              have hl2n : l2.length ≤ 2000 := by rw [hl2, List.length_append, List.length_replicate]; have := HLEN.out; omega
              rw [← hl2] at hOz HRP
              have hbs := hbz.size
              have hX1 := Lib.hid (show l2.length + 1 ≤ maxLen by unfold maxLen; omega)
              have hX2 := Lib.hid (show (l2.length + 1) * 8 ≤ 140737488355328 by omega)
              clear hl2 hl2n
              go_wp2_with (at_builtin; go_loud (refine wpList_append_lies _ rfl (.tmp 40) (.tmp 42) 22 rfl w.heap.size 3 i0 _ 1 8 Try.underlying22 hi hz0 hz1 hz2 rfl (by decide) _ l2.length (l2.map fun x => .int .i64 x) (by rfl) (hOz.alloc _) ⟨wr.heap.size, 0, none⟩ 1 1 [.int .i64 ((j : Int) + 1)] (by rfl) rfl (new1 wr _ _ _ rfl) (one1 _) (by omega) hX1.out hX2.out (Nat.le_trans hbs (by simp)) _ rfl ?_); intro g3 cap3 w3 hown3 hgr3 _ hlt3)
              obtain ⟨hB3, hs3, hblk⟩ := after_app hbz (Nat.le_refl _) hOz hbs hgr3
              have hO3 := Own1.snoc hown3
              clear hown3 hgr3 hlt3 hblk hOz
              go_roundw
              case rel => exact ⟨i + 1, by omega, by go_num, hB3, by rw [HRP.out]; exact hO3⟩
              case measure => simp [intOf]; omega
            · obtain rfl : i = q := by omega
              go_wp2
              go_roundw
              case rel => exact ⟨j + 1, by omega, by go_num, hbz, by rw [HRS.out]; exact hOz⟩
              case measure => simp [intOf]; omega
    · obtain rfl : j = 2 * h := by omega
      have hji : ¬ (((2 * h : Nat) : Int) + 1 ≤ L) := by have := HLh.out; omega
      have hji2 : L < ((2 * h : Nat) : Int) + 1 := by omega
      obtain ⟨A9, n9, c9, rfl, hn9, hI9⟩ := hO.form
      have HN9 := Lib.hid hn9
      clear hO hn9
      obtain ⟨z, hz⟩ : ∃ z : Int, z = ((2 * h : Nat) : Int) := ⟨_, rfl⟩
      rw [← hz] at hji hji2 ⊢
      have hz32 : z ≤ 32 := by omega
      have hz0' : 0 ≤ z := by omega
      clear hz
      go_wp2
      exact bodyPost_ret (v := .tuple #[.slice A9 n9 c9, .int .i64 0]) (by simp [results, Try.results25, go_sem]) rfl ⟨A9, n9, c9, rfl, HN9.out, hb, hI9⟩
end Go.Proofs.Ythjjpmcefiddmaa
