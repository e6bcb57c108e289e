/- The document's kinded, cycle, Times. -/
import Derived.Test.YthjjpmcefiddmaaSD
import Derived.Test.YthjjpmcefiddmaaK
namespace Go.Proofs.Ythjjpmcefiddmaa
open Go.RowKit

attribute [local go_sem] Oper.semAt_some

theorem kinded_any (n k : Int) (w : World) : Calls Try.prog 58 #[.int .i64 n, .int .i64 k] w fun e w' => e = .returned (.bool (decide (eK n k = 0))) ∧ w = w' := by
  cases ho : okN n
  · have HO := Lib.hid ho
    have HE := Lib.hid (show decide (eK n k = 0) = false from decide_eq_false (by unfold eK eD; rw [ho]; simp))
    rw [HE.out]
    clear ho
    go_enter Try.func58, Try.ntmps58
    go_wp2_with fail
    refine (isLumps_any n _).mono ?_
    rintro e w1 ⟨rfl, rfl⟩
    rw [HO.out]
    go_wp2
    go_ret
    exact ⟨rfl, rfl⟩
  · have HO := Lib.hid ho
    have HE := Lib.hid (show decide (eK n k = 0) = kB k from by unfold eK eD; rw [ho]; cases kB k <;> rfl)
    rw [HE.out]
    clear ho
    go_enter Try.func58, Try.ntmps58
    go_wp2_with fail
    refine (isLumps_any n _).mono ?_
    rintro e w1 ⟨rfl, rfl⟩
    rw [HO.out]
    go_wp2_with fail
    refine (within_any _ _ _ _).mono ?_
    rintro e w1 ⟨rfl, rfl⟩
    rw [kB_within]
    go_wp2
    go_ret
    exact ⟨rfl, rfl⟩
set_option maxRecDepth 100000 in
set_option maxHeartbeats 1000000 in
theorem cycle_any (h k p : Nat) (w : World) (h1 : 1 ≤ h) (h16 : h ≤ 16) (hk : k ≤ 1) (hp : p < 2 * h) :
    Calls Try.prog 59 #[.int .i64 ((2 * h : Nat) : Int), .int .i64 (k : Int), .int .i64 (p : Int)] w fun e w' => e = .returned (.int .i64 ((cycG h k p : Nat) : Int)) ∧ w = w' := by
  have hP := perm_go h1 h16 hk
  obtain ⟨c1, c2, c3⟩ := cycF_ok hP hp
  obtain ⟨C, hC⟩ : ∃ C, C = cycG h k p := ⟨_, rfl⟩
  have HMIN : Hid (∀ m, 1 ≤ m → m < C → itF (goN h k) m p ≠ p) := fun m a b => cycF_min a (by rw [hC] at b; exact b)
  have HLT : Hid (∀ m, itF (goN h k) m p < 2 * h) := fun m => itF_lt hP hp m
  have HC1 : Hid (itF (goN h k) C p = p) := by rw [hC]; exact c1
  have hC1 : 1 ≤ C := by rw [hC]; exact c2
  have hC40 : C ≤ 40 := by rw [hC]; exact Nat.le_trans c3 (timesN_ok h1 h16 hk).2
  rw [← hC]
  obtain ⟨L, hL⟩ : ∃ L : Int, L = ((2 * h : Nat) : Int) := ⟨_, rfl⟩
  have HL := Lib.hid hL
  obtain ⟨K, hK⟩ : ∃ K : Int, K = (k : Int) := ⟨_, rfl⟩
  have HK := Lib.hid hK
  rw [← hL, ← hK]
  clear hP c1 c2 c3 hC hL hK
  go_enter Try.func59, Try.ntmps59
  go_wp2_with fail
  rw [HL.out, HK.out]
  refine (goes_any h k p _ h16 hk hp).mono ?_
  rintro e w1 ⟨rfl, hw⟩
  subst hw
  rw [← HL.out, ← HK.out]
  go_wp2
  go_loop [7, 8] (fun nv pv => ∃ m : Nat, 1 ≤ m ∧ m ≤ C ∧ nv = .int .i64 (m : Int) ∧ pv = .int .i64 ((itF (goN h k) m p : Nat) : Int)) (fun nv _ => C - (intOf nv).toNat)
  case atStart => exact ⟨1, Nat.le_refl _, hC1, rfl, rfl⟩
  case round =>
    obtain ⟨m, hm1, hm2, rfl, rfl⟩ := hrel
    have hm40 : (m : Int) ≤ 40 := by omega
    by_cases hlt : m < C
    · have hne := HMIN.out m hm1 hlt
      have hyl := HLT.out m
      have HS : Hid (goN h k (itF (goN h k) m p) = itF (goN h k) (m + 1) p) := rfl
      obtain ⟨y, hy⟩ : ∃ y, y = itF (goN h k) m p := ⟨_, rfl⟩
      rw [← hy] at hne hyl HS ⊢
      have hyp : ((y : Int) != (p : Int)) = true := by simpa using (show ¬ (y : Int) = (p : Int) by omega)
      clear hy hne
      go_wp2_with fail
      rw [HL.out, HK.out]
      refine (goes_any h k y _ h16 hk hyl).mono ?_
      rintro e w1 ⟨rfl, hw⟩
      subst hw
      rw [← HL.out, ← HK.out]
      go_wp2
      go_round
      case rel => exact ⟨m + 1, by omega, by omega, by go_num, by rw [HS.out]⟩
      case measure => simp [intOf]; omega
    · obtain rfl : m = C := by omega
      have hyp : ((itF (goN h k) m p : Nat) : Int) = (p : Int) := by rw [HC1.out]
      have hyp2 : ((p : Int) != (p : Int)) = false := by simp
      rw [hyp]
      clear hyp
      go_wp2
      go_ret
      exact ⟨rfl, rfl⟩
theorem allG_back {h k n : Nat} (h1 : 1 ≤ h) (h16 : h ≤ 16) (hk : k ≤ 1) (e : allG h k n (2 * h) = true) : tmB h k n = true := by
  unfold tmB
  rw [List.all_eq_true]
  intro p hp
  have hp' := List.mem_range.1 hp
  have h2 := of_decide_eq_true (List.all_eq_true.1 e p hp)
  have hP := perm_go h1 h16 hk
  obtain ⟨c1, c2, c3⟩ := cycF_ok hP hp'
  refine decide_eq_true ?_
  show goW h (rep n k) p = p
  rw [← itF_go]
  have h3 := Nat.mod_add_div n (cycG h k p)
  rw [h2, Nat.zero_add] at h3
  rw [← h3]
  exact itF_mul hP hp' c1 _
theorem facts {h k : Nat} (h1 : 1 ≤ h) (h16 : h ≤ 16) (hk : k ≤ 1) : factsB h k = true := by
  have h0 := List.all_eq_true.1 facts_all (h - 1) (List.mem_range.2 (by omega))
  have h2 := List.all_eq_true.1 h0 k (List.mem_range.2 (by omega))
  rwa [show h - 1 + 1 = h from by omega] at h2
set_option maxRecDepth 100000 in
set_option maxHeartbeats 2000000 in
theorem rtimes_ok (h k : Nat) (w : World) (h1 : 1 ≤ h) (h16 : h ≤ 16) (hk : k ≤ 1) :
    Calls Try.prog 24 #[.int .i64 ((2 * h : Nat) : Int), .int .i64 (k : Int)] w fun e w' => e = .returned (.tuple #[.int .i64 ((timesN h k : Nat) : Int), .int .i64 0]) ∧ w = w' := by
  obtain ⟨hT1, hT40⟩ := timesN_ok h1 h16 hk
  have hf := facts h1 h16 hk
  simp only [factsB, Bool.and_eq_true] at hf
  have HALL := Lib.hid hf.2
  have HMIN : Hid (∀ t, 1 ≤ t → t < timesN h k → allG h k t (2 * h) = false) := fun t a b => by
    rw [Bool.eq_false_iff]
    intro e
    have := timesN_min a b (by omega)
    rw [allG_back h1 h16 hk e] at this
    cases this
  have HCY : Hid (∀ p, p < 2 * h → 1 ≤ cycG h k p ∧ cycG h k p ≤ 40) := fun p hp => by
    obtain ⟨c1, c2, c3⟩ := cycF_ok (perm_go h1 h16 hk) hp
    exact ⟨c2, Nat.le_trans c3 hT40⟩
  have hTpos : 1 ≤ timesN h k := by unfold timesN; omega
  obtain ⟨T, hT⟩ : ∃ T, T = timesN h k := ⟨_, rfl⟩
  rw [← hT] at HALL HMIN hT40 hTpos ⊢
  obtain ⟨L, hL⟩ : ∃ L : Int, L = ((2 * h : Nat) : Int) := ⟨_, rfl⟩
  have HL := Lib.hid hL
  obtain ⟨K, hK⟩ : ∃ K : Int, K = (k : Int) := ⟨_, rfl⟩
  have HK := Lib.hid hK
  have HKE := Lib.hid (show decide (eK L K = 0) = true from decide_eq_true (by rw [hL, hK]; exact eK_ok h1 h16 hk))
  have hLh : L = 2 * (h : Int) := by omega
  have HLh := Lib.hid hLh
  rw [← hL, ← hK]
  clear hf hT1 hT hL hK hLh
  go_enter Try.func24, Try.ntmps24
  go_wp2_with fail
  refine (kinded_any L K _).mono ?_
  rintro e w1 ⟨rfl, hw⟩
  subst hw
  rw [HKE.out]
  go_wp2
  go_loop [6, 7, 8] (fun nv _ _ => ∃ n : Nat, 1 ≤ n ∧ n ≤ T ∧ nv = .int .i64 (n : Int)) (fun nv _ _ => T - (intOf nv).toNat)
  case atStart => exact ⟨1, Nat.le_refl _, hTpos, rfl⟩
  case round =>
    obtain ⟨n, hn1, hn2, rfl⟩ := hrel
    have hn40 : (n : Int) ≤ 40 := by omega
    go_wp2
    go_loop [7, 8] (fun av pv => ∃ p : Nat, p ≤ 2 * h ∧ pv = .int .i64 (p : Int) ∧ av = .bool (allG h k n p)) (fun _ pv => 2 * h - (intOf pv).toNat)
    case atStart => exact ⟨0, Nat.zero_le _, rfl, rfl⟩
    case round =>
      obtain ⟨p, hp, rfl, rfl⟩ := hrel
      by_cases hlt : p < 2 * h
      · have hpi : (p : Int) < L := by have := HLh.out; omega
        have HSU := Lib.hid (allG_succ h k n p)
        obtain ⟨cy1, cy2⟩ := HCY.out p hlt
        obtain ⟨c, hc⟩ : ∃ c, c = cycG h k p := ⟨_, rfl⟩
        rw [← hc] at HSU cy1 cy2
        have HC := Lib.hid hc
        clear hc
        cases ha : allG h k n p
        · rw [ha, Bool.false_and] at HSU
          clear ha
          go_wp2
          go_round
          case rel => exact ⟨p + 1, by omega, by go_num, by rw [HSU.out]⟩
          case measure => simp [intOf]; omega
        · rw [ha, Bool.true_and] at HSU
          have hm1 : Int.tmod (n : Int) (c : Int) = ((n % c : Nat) : Int) := by rw [Int.tmod_eq_emod_of_nonneg (by omega)]; rfl
          have hm2 : (n : Int) % (c : Int) = ((n % c : Nat) : Int) := rfl
          have hc0 : ((c : Int) == 0) = false := by simpa using (show ¬ (c : Int) = 0 by omega)
          have hc00 : ¬ (c : Int) = 0 := by omega
          have hcI : (1 : Int) ≤ (c : Int) := by omega
          have hcI2 : (c : Int) ≤ 40 := by omega
          obtain ⟨r, hr⟩ : ∃ r, r = n % c := ⟨_, rfl⟩
          rw [← hr] at HSU hm1 hm2
          clear ha hr
          by_cases hr0 : r = 0
          · have hd : ((r : Int) == 0) = true := by simpa using hr0
            rw [decide_eq_true hr0] at HSU
            clear hr0
            go_wp2_with fail
            rw [HL.out, HK.out]
            refine (cycle_any h k p _ h1 h16 hk hlt).mono ?_
            rintro e w1 ⟨rfl, hw⟩
            subst hw
            rw [← HL.out, ← HK.out, ← HC.out]
            go_wp2
            go_round
            case rel => exact ⟨p + 1, by omega, by go_num, by rw [HSU.out]⟩
            case measure => simp [intOf]; omega
          · have hd : ((r : Int) == 0) = false := by simpa using hr0
            rw [decide_eq_false hr0] at HSU
            clear hr0
            go_wp2_with fail
            rw [HL.out, HK.out]
            refine (cycle_any h k p _ h1 h16 hk hlt).mono ?_
            rintro e w1 ⟨rfl, hw⟩
            subst hw
            rw [← HL.out, ← HK.out, ← HC.out]
            go_wp2
            go_round
            case rel => exact ⟨p + 1, by omega, by go_num, by rw [HSU.out]⟩
            case measure => simp [intOf]; omega
      · obtain rfl : p = 2 * h := by omega
        have hpi : ((2 * h : Nat) : Int) = L := by have := HLh.out; omega
        rw [hpi]
        clear hpi
        by_cases hnT : n < T
        · have ha := HMIN.out n hn1 hnT
          rw [ha]
          clear ha
          go_wp2
          go_round
          case rel => exact ⟨n + 1, by omega, by omega, by go_num⟩
          case measure => simp [intOf]; omega
        · obtain rfl : n = T := by omega
          have ha := HALL.out
          rw [ha]
          clear ha
          go_wp2
          exact bodyPost_ret (v := .tuple #[.int .i64 (n : Int), .int .i64 0]) (by simp [results, Try.results24, go_sem]) rfl ⟨rfl, rfl⟩
end Go.Proofs.Ythjjpmcefiddmaa
