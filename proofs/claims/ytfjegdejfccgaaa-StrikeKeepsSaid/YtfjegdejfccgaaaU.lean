/- limit, Limit by the program. -/
import Derived.Test.YtfjegdejfccgaaaT
namespace Go.Proofs.Ytfjegdejfccgaaa
open Go.RowKit

/-- What the first compounds' stock is enough for. -/
def limTo (ts ks : List Int) : Nat → Int
  | 0 => 1000
  | i + 1 => min (limTo ts ks i) (ks.getD i 0 / ts.getD i 0)
theorem limTo_le (ts ks : List Int) : ∀ n i, i < n → limTo ts ks n ≤ ks.getD i 0 / ts.getD i 0
  | 0, _, h => by omega
  | n + 1, i, h => by
    simp only [limTo]
    rcases (by omega : i < n ∨ i = n) with h | rfl
    · have := limTo_le ts ks n i h; omega
    · omega
theorem limTo_ge {ts ks : List Int} {z : Int} (hz : z ≤ 1000) : ∀ n, (∀ i, i < n → z ≤ ks.getD i 0 / ts.getD i 0) → z ≤ limTo ts ks n
  | 0, _ => hz
  | n + 1, h => by
    simp only [limTo]
    have := limTo_ge hz n (fun i hi => h i (by omega))
    have := h n (by omega)
    omega
theorem limTo_top (ts ks : List Int) : ∀ n, limTo ts ks n ≤ 1000
  | 0 => Int.le_refl _
  | n + 1 => by simp only [limTo]; have := limTo_top ts ks n; omega
theorem limTo_step {ts ks : List Int} {i : Nat} {x y : Int} (hx : ts[i]? = some x) (hy : ks[i]? = some y) : limTo ts ks (i + 1) = min (limTo ts ks i) (y / x) := by
  simp only [limTo]; rw [getD_at hx, getD_at hy]
set_option maxRecDepth 100000 in
set_option maxHeartbeats 1000000 in
theorem limit_any (T : Option Addr) (t u : Nat) (ts : List Int) (K : Option Addr) (k v : Nat) (ks : List Int) (w : World) (hT : Ints w T ts) (ht : ts.length = t) (hK : Ints w K ks) (hk : ks.length = k) (hkt : k ≤ t) (htm : t ≤ 100)
    (htb : ∀ x ∈ ts, 1 ≤ x ∧ x ≤ 1000000) (hkb : ∀ x ∈ ks, 0 ≤ x ∧ x ≤ 1000) :
    Calls Try.prog 105 #[.slice T t u, .slice K k v] w fun e w' => e = .returned (.int .i64 (limTo ts ks k)) ∧ w = w' := by
  have Ht := Lib.hid ht; have Hk := Lib.hid hk
  have HTB := Lib.hid htb; have HKB := Lib.hid hkb
  have hti : (t : Int) ≤ 100 := by omega
  clear ht hk htb hkb
  go_enter Try.func105, Try.ntmps105
  go_wp2
  go_loop [5, 10] (fun s i => ∃ q : Nat, q ≤ k ∧ i = .int .i64 q ∧ s = .int .i64 (limTo ts ks q)) (fun _ i => k - (intOf i).toNat)
  case atStart => exact ⟨0, Nat.zero_le _, rfl, rfl⟩
  case round =>
    obtain ⟨q, hq, rfl, rfl⟩ := hrel
    by_cases hlt : q < k
    · obtain ⟨b, o, y, rfl, hbl, hg, hc1⟩ := hK.at_ (k := q) (by rw [Hk.out]; exact hlt)
      obtain ⟨b', o', x, rfl, hbl', hg', hc1'⟩ := hT.at_ (k := q) (by rw [Ht.out]; omega)
      have hqk : (q : Int) < (k : Int) := by omega
      have hqt : (q : Int) < (t : Int) := by omega
      have hki : (k : Int) ≤ 100 := by omega
      obtain ⟨y0, y9⟩ := HKB.out y (List.mem_of_getElem? hg)
      obtain ⟨x0, x9⟩ := HTB.out x (List.mem_of_getElem? hg')
      have HS := Lib.hid (limTo_step hg' hg)
      obtain ⟨s, hs⟩ : ∃ s, s = limTo ts ks q := ⟨_, rfl⟩
      rw [← hs]
      have HSS := Lib.hid hs
      have hxz : (x == 0) = false := by simpa using (show ¬ x = 0 by omega)
      have hxz2 : ¬ x = 0 := by omega
      clear hg hg' hs
      by_cases hc : y / x < s
      · have HQ := Lib.hid (show limTo ts ks (q + 1) = y / x by rw [HS.out, ← HSS.out]; omega)
        go_wp2
        go_round
        case rel => exact ⟨q + 1, by omega, by go_num, by rw [HQ.out]⟩
        case measure => simp [intOf]; omega
      · have HQ := Lib.hid (show limTo ts ks (q + 1) = s by rw [HS.out, ← HSS.out]; omega)
        have hci : s ≤ y / x := by omega
        clear hc
        go_wp2
        go_round
        case rel => exact ⟨q + 1, by omega, by go_num, by rw [HQ.out]⟩
        case measure => simp [intOf]; omega
    · obtain rfl : q = k := by omega
      go_wp2
      go_ret
      exact ⟨rfl, rfl⟩
/-- Which of the first compounds are short for so many runs and one more. -/
def shTo (ts ks : List Int) (R : Int) : Nat → List Int
  | 0 => []
  | i + 1 => if ks.getD i 0 < (R + 1) * ts.getD i 0 then shTo ts ks R i ++ [(i : Int)] else shTo ts ks R i
theorem shTo_yes {ts ks : List Int} {R : Int} {i : Nat} {x y : Int} (hx : ts[i]? = some x) (hy : ks[i]? = some y) (h : y < (R + 1) * x) : shTo ts ks R (i + 1) = shTo ts ks R i ++ [(i : Int)] := by
  simp only [shTo]; rw [getD_at hx, getD_at hy, if_pos h]
theorem shTo_no {ts ks : List Int} {R : Int} {i : Nat} {x y : Int} (hx : ts[i]? = some x) (hy : ks[i]? = some y) (h : ¬ y < (R + 1) * x) : shTo ts ks R (i + 1) = shTo ts ks R i := by
  simp only [shTo]; rw [getD_at hx, getD_at hy, if_neg h]
theorem shTo_len (ts ks : List Int) (R : Int) : ∀ n, (shTo ts ks R n).length ≤ n
  | 0 => Nat.le_refl _
  | n + 1 => by
    have := shTo_len ts ks R n
    simp only [shTo]
    split
    · simp; omega
    · omega
theorem shTo_nil {ts ks : List Int} {R : Int} : ∀ n, shTo ts ks R n = [] → ∀ i, i < n → (R + 1) * ts.getD i 0 ≤ ks.getD i 0
  | 0, _, _, h => by omega
  | n + 1, h, i, hi => by
    simp only [shTo] at h
    split at h
    · simp at h
    · rename_i hc
      rcases (by omega : i < n ∨ i = n) with hi | rfl
      · exact shTo_nil n h i hi
      · omega
theorem shTo_ne {ts ks : List Int} {R : Int} : ∀ n, shTo ts ks R n ≠ [] → ∃ i, i < n ∧ ks.getD i 0 < (R + 1) * ts.getD i 0
  | 0, h => absurd rfl h
  | n + 1, h => by
    simp only [shTo] at h
    split at h
    · rename_i hc; exact ⟨n, by omega, hc⟩
    · obtain ⟨i, hi, h2⟩ := shTo_ne n h; exact ⟨i, by omega, h2⟩
theorem mulR {R x : Int} (r0 : 0 ≤ R) (r1 : R ≤ 1000) (x0 : 1 ≤ x) (x9 : x ≤ 1000000) : 0 ≤ (R + 1) * x ∧ (R + 1) * x ≤ 1001000000 := by
  refine ⟨Int.mul_nonneg (by omega) (by omega), ?_⟩
  have h1 : (R + 1) * x ≤ 1001 * x := Int.mul_le_mul_of_nonneg_right (by omega) (by omega)
  omega
/-- What Limit answers. -/
def limV (X Y : List (List Int)) (ts ks : List Int) : Int := if errR X Y ts ks = 0 then limTo ts ks X.length else 0
def shV (X Y : List (List Int)) (ts ks : List Int) : List Int := if errR X Y ts ks = 0 then shTo ts ks (limTo ts ks X.length) X.length else []
def LimAt (w : World) (r : Int) (l : List Int) (x : Int) (e : Ending) (w' : World) : Prop := ∃ A n c, e = .returned (.tuple #[.int .i64 r, .slice A n c, .int .i64 x]) ∧ n = l.length ∧ Bel w w' ∧ Ints w' A l
theorem ret_l3 {b : Value} {r s x y : Int} (h0 : r = s) (h : x = y) : Ending.returned (.tuple #[.int .i64 r, b, .int .i64 x]) = .returned (.tuple #[.int .i64 s, b, .int .i64 y]) := by rw [h0, h]
theorem limTo_pos {ts ks : List Int} (ht : ∀ x ∈ ts, 1 ≤ x) (hk : ∀ x ∈ ks, 0 ≤ x) : ∀ n, n ≤ ts.length → 0 ≤ limTo ts ks n := by
  intro n hn
  refine limTo_ge (by omega) n fun i hi => ?_
  have h1 : 0 ≤ ks.getD i 0 := by
    rw [List.getD_eq_getElem?_getD]
    cases e : ks[i]? with
    | none => exact Int.le_refl _
    | some u => exact hk u (List.mem_of_getElem? e)
  have h2 : 0 ≤ ts.getD i 0 := by
    rw [List.getD_eq_getElem?_getD]
    cases e : ts[i]? with
    | none => exact Int.le_refl _
    | some u => have := ht u (List.mem_of_getElem? e); simp; omega
  exact Int.ediv_nonneg h1 h2
set_option maxRecDepth 100000 in
set_option maxHeartbeats 2000000 in
theorem limit_pub (A B : Option Addr) (n c m d : Nat) (X Y : List (List Int)) (T : Option Addr) (t u : Nat) (ts : List Int) (K : Option Addr) (k v : Nat) (ks : List Int) (w : World) (hS : Strk w A n B m X Y) (hT : Ints w T ts) (ht : ts.length = t) (htu : t ≤ u) (hmax : u ≤ maxLen) (hK : Ints w K ks) (hk : ks.length = k) (hkm : k ≤ maxLen) :
    Calls Try.prog 58 #[.agg #[.slice A n c, .slice B m d], .slice T t u, .slice K k v] w (LimAt w (limV X Y ts ks) (shV X Y ts ks) (errR X Y ts ks)) := by
  have Ht := Lib.hid ht; have Hk := Lib.hid hk
  by_cases he : errR X Y ts ks = 0
  · obtain ⟨i1, hj, hy0, hy1, hy2⟩ := info_parts info1I
    obtain ⟨hz, hs, hp, hb⟩ := errR_cases he
    have HZ := Lib.hid he
    obtain ⟨kb, kl⟩ := listB_yes hs
    have hX := hS.lx
    have hkn : k = n := by rw [← hk, ← hX]; omega
    have htm0 : tmB X Y ts = true := by
      rcases errT_cases X Y ts with ⟨_, h, _⟩ | h
      · exact h
      · rw [hz] at h; cases h
    obtain ⟨tb, tl⟩ := tm_of htm0
    have hS0 : errS X Y = 0 := by
      rcases errT_cases X Y ts with ⟨h, _, _⟩ | h
      · exact h
      · rw [hz] at h; cases h
    have hSt := str_of hS0
    have htb : ∀ x ∈ ts, 1 ≤ x ∧ x ≤ 1000000 := fun x hx => ⟨of_decide_eq_true (List.all_eq_true.1 hp x hx), (tb x hx).2⟩
    have hkt : k ≤ t := by rw [← hk, ← ht, tl]; omega
    have ht6 : t ≤ 6 := by rw [← ht, tl]; have := hSt.x3; have := hSt.y3; omega
    have HTB := Lib.hid htb; have HKB := Lib.hid kb
    have HL := Lib.hid (show limV X Y ts ks = limTo ts ks k by unfold limV; rw [if_pos he, hX, hkn])
    have HSH := Lib.hid (show shV X Y ts ks = shTo ts ks (limTo ts ks k) k by unfold shV; rw [if_pos he, hX, hkn])
    have hR0 := limTo_pos (ts := ts) (ks := ks) (fun x hx => (htb x hx).1) (fun x hx => (kb x hx).1) k (by omega)
    have hR1 := limTo_top ts ks k
    obtain ⟨R, hR⟩ : ∃ R, R = limTo ts ks k := ⟨_, rfl⟩
    rw [← hR] at HL HSH hR0 hR1
    have HR := Lib.hid hR
    have hk6 : (k : Int) ≤ 6 := by omega
    have ht6i : (t : Int) ≤ 6 := by omega
    clear he hz hs hp hb kb kl hX hkn htm0 tb tl hS0 hSt htb ht hk hR
    go_enter Try.func58, Try.ntmps58
    go_wp2_with fail
    refine (validateRuns_any A B n c m d X Y T t u ts K k v ks _ (hS.bel (by (repeat (first | exact Bel.refl _ | assumption | refine Bel.drew ?_ | refine Bel.drewN ?_ _ | refine Bel.alloc ?_ _ | refine Bel.setCell ?_ (by first | omega | (simp; done) | (simp; omega) | (simp at *; omega)) _ | refine Bel.trans ?_ (by assumption))))) (hT.bel (by (repeat (first | exact Bel.refl _ | assumption | refine Bel.drew ?_ | refine Bel.drewN ?_ _ | refine Bel.alloc ?_ _ | refine Bel.setCell ?_ (by first | omega | (simp; done) | (simp; omega) | (simp at *; omega)) _ | refine Bel.trans ?_ (by assumption))))) Ht.out htu hmax (hK.bel (by (repeat (first | exact Bel.refl _ | assumption | refine Bel.drew ?_ | refine Bel.drewN ?_ _ | refine Bel.alloc ?_ _ | refine Bel.setCell ?_ (by first | omega | (simp; done) | (simp; omega) | (simp at *; omega)) _ | refine Bel.trans ?_ (by assumption))))) Hk.out hkm).mono ?_
    rintro e w1 ⟨rfl, hb1⟩
    rw [HZ.out]
    have hw1 : Bel w w1 := ((Bel.refl w).alloc _).trans hb1
    go_wp2_with fail
    refine (limit_any T t u ts K k v ks _ (hT.bel hw1) Ht.out (hK.bel hw1) Hk.out hkt (by omega) HTB.out HKB.out).mono ?_
    rintro e w2 ⟨rfl, rfl⟩
    rw [← HR.out]
    go_wp2
    go_loopw [11, 26] (fun v i wr => ∃ q : Nat, q ≤ k ∧ i = .int .i64 q ∧ Bel w1 wr ∧ Own1 3 w1.heap.size wr v (shTo ts ks R q)) (fun _ i _ => k - (intOf i).toNat)
    case atStart => exact ⟨0, Nat.zero_le _, rfl, Bel.refl _, Own1.nil _ _ _⟩
    case round =>
      obtain ⟨q, hq, rfl, hbr, hO⟩ := hrel
      by_cases hlt : q < k
      · obtain ⟨b, o, y, rfl, hbl, hg, hc1⟩ := (hK.bel (hw1.trans hbr)).at_ (k := q) (by rw [Hk.out]; exact hlt)
        obtain ⟨b', o', x, rfl, hbl', hg', hc1'⟩ := (hT.bel (hw1.trans hbr)).at_ (k := q) (by rw [Ht.out]; omega)
        have hqk : (q : Int) < (k : Int) := by omega
        have hqt : (q : Int) < (t : Int) := by omega
        obtain ⟨y0, y9⟩ := HKB.out y (List.mem_of_getElem? hg)
        obtain ⟨x0, x9⟩ := HTB.out x (List.mem_of_getElem? hg')
        obtain ⟨p1, p2⟩ := mulR hR0 hR1 x0 x9
        have hOl := shTo_len ts ks R q
        by_cases hc : y < (R + 1) * x
        · have HQ := Lib.hid (shTo_yes hg' hg hc)
          obtain ⟨P, hP⟩ : ∃ P, P = shTo ts ks R q := ⟨_, rfl⟩
          rw [← hP] at hO hOl HQ
          have HO := Lib.hid hO
          have hX1 := Lib.hid (show P.length + 1 ≤ maxLen by unfold maxLen; omega)
          have hX2 := Lib.hid (show (P.length + 1) * 8 ≤ 140737488355328 by omega)
          have hwz := hbr.size
          clear hg hg' hP hO
          go_wp2_with (at_builtin; go_loud (refine wpList_append_lies _ rfl (.tmp 40) (.tmp 42) 28 rfl w1.heap.size 3 i1 _ 1 8 Try.underlying28 hj hy0 hy1 hy2 rfl (by decide) u11 _ _ (by rfl) (Own1.alloc HO.out _) ⟨wr.heap.size, 0, none⟩ 1 1 [.int .i64 (q : Int)] (by rfl) rfl (new1 _ _ _ _ rfl) (one1 _) (by omega) hX1.out hX2.out (by simp <;> omega) _ rfl ?_); intro g5 cap5 w5 hown5 hgr5 hat5 hlt5)
          have hB5 := Lib.hid (grown_own (w := w1) (hbr.alloc _) HO.out (Nat.le_refl _) hgr5)
          have HO5 := Lib.hid (Own1.snoc hown5)
          clear hown5 hgr5 hat5 hlt5
          go_roundw
          case rel => exact ⟨q + 1, by omega, by go_num, hB5.out, by rw [HQ.out]; exact HO5.out⟩
          case measure => simp [intOf]; omega
        · have HQ := Lib.hid (shTo_no hg' hg hc)
          have hci : (R + 1) * x ≤ y := by omega
          clear hc hg hg'
          go_wp2
          go_roundw
          case rel => exact ⟨q + 1, by omega, by go_num, hbr, by rw [HQ.out]; exact hO⟩
          case measure => simp [intOf]; omega
      · obtain rfl : q = k := by omega
        obtain ⟨A9, n9, c9, rfl, hn9, hI9⟩ := hO.form
        have HN9 := Lib.hid hn9
        have HI9 := Lib.hid hI9
        clear hn9 hI9 hO
        go_wp2
        go_ret3
        exact ⟨A9, n9, c9, ret_l3 HL.out.symm HZ.out.symm, by rw [HSH.out]; exact HN9.out, by (repeat (first | exact Bel.refl _ | assumption | refine Bel.drew ?_ | refine Bel.drewN ?_ _ | refine Bel.alloc ?_ _ | refine Bel.setCell ?_ (by first | omega | (simp; done) | (simp; omega) | (simp at *; omega)) _ | refine Bel.trans ?_ (by assumption))), by rw [HSH.out]; exact HI9.out⟩
  · obtain ⟨x, hx⟩ : ∃ x, x = errR X Y ts ks := ⟨_, rfl⟩
    have hne : (x != 0) = true := by rw [hx]; simpa using he
    have HV1 := Lib.hid (show limV X Y ts ks = 0 by unfold limV; rw [if_neg he])
    have HV2 := Lib.hid (show shV X Y ts ks = [] by unfold shV; rw [if_neg he])
    have HX := Lib.hid hx
    clear he hx ht hk
    go_enter Try.func58, Try.ntmps58
    go_wp2_with fail
    refine (validateRuns_any A B n c m d X Y T t u ts K k v ks _ (hS.bel (by (repeat (first | exact Bel.refl _ | assumption | refine Bel.drew ?_ | refine Bel.drewN ?_ _ | refine Bel.alloc ?_ _ | refine Bel.setCell ?_ (by first | omega | (simp; done) | (simp; omega) | (simp at *; omega)) _ | refine Bel.trans ?_ (by assumption))))) (hT.bel (by (repeat (first | exact Bel.refl _ | assumption | refine Bel.drew ?_ | refine Bel.drewN ?_ _ | refine Bel.alloc ?_ _ | refine Bel.setCell ?_ (by first | omega | (simp; done) | (simp; omega) | (simp at *; omega)) _ | refine Bel.trans ?_ (by assumption))))) Ht.out htu hmax (hK.bel (by (repeat (first | exact Bel.refl _ | assumption | refine Bel.drew ?_ | refine Bel.drewN ?_ _ | refine Bel.alloc ?_ _ | refine Bel.setCell ?_ (by first | omega | (simp; done) | (simp; omega) | (simp at *; omega)) _ | refine Bel.trans ?_ (by assumption))))) Hk.out hkm).mono ?_
    rintro e w1 ⟨rfl, hb1⟩
    rw [← HX.out]
    go_wp2
    go_ret3
    exact ⟨none, 0, 0, ret_l3 HV1.out.symm HX.out, by rw [HV2.out]; rfl, by (repeat (first | exact Bel.refl _ | assumption | refine Bel.drew ?_ | refine Bel.drewN ?_ _ | refine Bel.alloc ?_ _ | refine Bel.setCell ?_ (by first | omega | (simp; done) | (simp; omega) | (simp at *; omega)) _ | refine Bel.trans ?_ (by assumption))), by rw [HV2.out]; exact .inl rfl⟩
end Go.Proofs.Ytfjegdejfccgaaa
