/- Run by the document. -/
import Derived.Test.YtfjegdejfccgaaaW
namespace Go.Proofs.Ytfjegdejfccgaaa
open Go.RowKit

theorem lim_short {ts ks : List Int} {n q : Nat} {r x y : Int} (hq : q < n) (hx : ts[q]? = some x) (hy : ks[q]? = some y) (x0 : 1 ≤ x) (h : y < r * x) : ¬ r ≤ limTo ts ks n := by
  have h1 := limTo_le ts ks n q hq
  rw [getD_at hx, getD_at hy] at h1
  have h2 : y / x < r := (Int.ediv_lt_iff_lt_mul (by omega)).2 h
  omega
theorem lim_fine {ts ks : List Int} {n : Nat} {r : Int} (hr : r ≤ 1000) (ht : ∀ x ∈ ts, 1 ≤ x) (hn : n ≤ ts.length) (h : ∀ i, i < n → r * ts.getD i 0 ≤ ks.getD i 0) : r ≤ limTo ts ks n := by
  refine limTo_ge hr n fun i hi => ?_
  have h2 : 1 ≤ ts.getD i 0 := by
    rw [List.getD_eq_getElem?_getD, List.getElem?_eq_getElem (by omega)]
    exact ht _ (List.getElem_mem _)
  exact (Int.le_ediv_iff_mul_le (by omega)).2 (h i hi)
set_option maxRecDepth 100000 in
set_option maxHeartbeats 4000000 in
theorem rRun_go (A B : Option Addr) (n c m d : Nat) (X Y : List (List Int)) (T : Option Addr) (t u : Nat) (ts : List Int) (K : Option Addr) (k v : Nat) (ks : List Int) (r : Int) (w : World) (hS : Strk w A n B m X Y) (hT : Ints w T ts) (ht : ts.length = t) (hmax : t ≤ maxLen) (hK : Ints w K ks) (hk : ks.length = k) (hkm : k ≤ maxLen)
    (he : errR X Y ts ks = 0) (hr0 : 0 ≤ r) (hr1 : r ≤ 1000) :
    Calls Try.prog 59 #[.agg #[.slice A n c, .slice B m d], .slice T t u, .slice K k v, .int .i64 r] w (Three w (leftV X Y ts ks r) (madeV X Y ts ks r) (errU X Y ts ks r)) := by
  have Ht := Lib.hid ht; have Hk := Lib.hid hk
  obtain ⟨i1, hj, hy0, hy1, hy2⟩ := info_parts info1I
  have hts := rts_of he ht hk
  have HZ := Lib.hid he
  have HTB := Lib.hid hts.htb; have HKB := Lib.hid hts.hkb
  have hkt := hts.kt; have ht6 := hts.t6
  have hk6 : (k : Int) ≤ 6 := by omega
  have ht6i : (t : Int) ≤ 6 := by omega
  have HIN := Lib.hid (show inB 0 1000 r = true from decide_eq_true ⟨hr0, hr1⟩)
  have HOK := Lib.hid (fun (h : r ≤ limTo ts ks k) => show errU X Y ts ks r = 0 ∧ leftV X Y ts ks r = leftL r ts ks k ∧ madeV X Y ts ks r = madeL r ts k (t - k) from by
    have h1 := errU_ok he ⟨hr0, hr1⟩ (by rw [hts.kX]; exact h)
    refine ⟨h1, ?_, ?_⟩
    · unfold leftV; rw [if_pos h1, hts.kX]
    · unfold madeV; rw [if_pos h1, hts.kX, hts.tk])
  have HNO := Lib.hid (fun (h : ¬ r ≤ limTo ts ks k) => show errU X Y ts ks r = 9 ∧ leftV X Y ts ks r = [] ∧ madeV X Y ts ks r = [] from by
    have h1 := errU_short he ⟨hr0, hr1⟩ (by rw [hts.kX]; exact h)
    refine ⟨h1, ?_, ?_⟩
    · unfold leftV; rw [h1]; rfl
    · unfold madeV; rw [h1]; rfl)
  have HFI := Lib.hid (fun h => lim_fine (ts := ts) (ks := ks) (n := k) hr1 (fun x hx => (hts.htb x hx).1) (by omega) h)
  clear he hts ht hk
  go_enter Try.func59, Try.ntmps59
  go_wp2_with fail
  refine (stocked_any A B n c m d X Y T t u ts K k v ks _ (hS.bel (by (repeat (first | exact Bel.refl _ | assumption | refine Bel.drew ?_ | refine Bel.drewN ?_ _ | refine Bel.alloc ?_ _ | refine Bel.setCell ?_ (by first | omega | (simp; done) | (simp; omega) | (simp at *; omega)) _ | refine Bel.trans ?_ (by assumption))))) (hT.bel (by (repeat (first | exact Bel.refl _ | assumption | refine Bel.drew ?_ | refine Bel.drewN ?_ _ | refine Bel.alloc ?_ _ | refine Bel.setCell ?_ (by first | omega | (simp; done) | (simp; omega) | (simp at *; omega)) _ | refine Bel.trans ?_ (by assumption))))) Ht.out hmax (hK.bel (by (repeat (first | exact Bel.refl _ | assumption | refine Bel.drew ?_ | refine Bel.drewN ?_ _ | refine Bel.alloc ?_ _ | refine Bel.setCell ?_ (by first | omega | (simp; done) | (simp; omega) | (simp at *; omega)) _ | refine Bel.trans ?_ (by assumption))))) Hk.out hkm).mono ?_
  rintro e w1 ⟨rfl, hb1⟩
  rw [HZ.out]
  have hw1 : Bel w w1 := ((Bel.refl w).alloc _).trans hb1
  go_wp2_with fail
  refine (within_any r 0 1000 _).mono ?_
  rintro e w2 ⟨rfl, rfl⟩
  rw [HIN.out]
  go_wp2
  go_loopw [12, 13, 14] (fun vl vm i wr => ∃ q : Nat, q ≤ t ∧ i = .int .i64 q ∧ RunR w1 wr vl vm (leftL r ts ks (min q k)) (madeL r ts k (q - k)) ∧ (q ≤ k → vm = .slice none 0 0) ∧ ∀ i, i < min q k → r * ts.getD i 0 ≤ ks.getD i 0) (fun _ _ i _ => t - (intOf i).toNat)
  case atStart => exact ⟨0, Nat.zero_le _, rfl, by rw [Nat.zero_min, Nat.zero_sub]; exact RunR.zero w1, fun _ => rfl, fun i hi => by omega⟩
  case round =>
    obtain ⟨q, hq, rfl, hO, hvm, hfi⟩ := hrel
    have HFQ := Lib.hid hfi
    clear hfi
    by_cases hlt : q < t
    · have hbr : Bel w1 wr := by obtain ⟨base, h1, h2, h3, _⟩ := hO; exact h3
      obtain ⟨b', o', x, rfl, hbl', hg', hd1'⟩ := (hT.bel hw1).at_ (k := q) (by rw [Ht.out]; exact hlt)
      have hc1' : wr.cell? ⟨b', o' + q, none⟩ = some (.int .i64 x) := by rw [hbr.use.1 _ _ hbl']; exact hd1'
      have hqt : (q : Int) < (t : Int) := by omega
      obtain ⟨x0, x9⟩ := HTB.out x (List.mem_of_getElem? hg')
      obtain ⟨p1, p2⟩ := mulRun hr0 hr1 x0 x9
      have hwz := hbr.size
      by_cases hqk : q < k
      · have hqki : (q : Int) < (k : Int) := by omega
        obtain ⟨b, o, y, rfl, hbl, hg, hc1⟩ := (hK.bel hw1).at_ (k := q) (by rw [Hk.out]; exact hqk)
        obtain ⟨y0, y9⟩ := HKB.out y (List.mem_of_getElem? hg)
        have HQ := Lib.hid (show leftL r ts ks (min (q + 1) k) = leftL r ts ks (min q k) ++ [y - r * x] by rw [Nat.min_eq_left (by omega), Nat.min_eq_left (by omega)]; exact left_step hg' hg)
        have HQ2 := Lib.hid (show madeL r ts k (q + 1 - k) = [] by rw [show q + 1 - k = 0 by omega]; rfl)
        have hml : madeL r ts k (q - k) = [] := by rw [show q - k = 0 by omega]; rfl
        obtain rfl := hvm (by omega)
        rw [hml] at hO
        have hPl : (leftL r ts ks (min q k)).length = q := by rw [leftL_len]; omega
        obtain ⟨P, hP⟩ : ∃ P, P = leftL r ts ks (min q k) := ⟨_, rfl⟩
        rw [← hP] at hO hPl HQ
        have hOl : wr.ownsRow w1.heap.size 3 1 u12 q (P.map fun x => .int .i64 x) := by
          obtain ⟨base, h1, h2, h3, h4, _⟩ := hO
          unfold Own1 at h4
          rw [hPl] at h4
          exact h4
        have HO := Lib.hid hO
        have HOL := Lib.hid hOl
        have HPL := Lib.hid hPl
        have hX1 := Lib.hid (show q + 1 ≤ maxLen by unfold maxLen; omega)
        have hX2 := Lib.hid (show (q + 1) * 8 ≤ 140737488355328 by omega)
        obtain ⟨M, hM⟩ : ∃ M, M = r * x := ⟨_, rfl⟩
        rw [← hM] at p1 p2 HQ
        have k1 : IntKind.i64.wrap (r * x) = M := by rw [← hM]; exact IntWalk.i64_in _ (by omega)
        have k2 : IntKind.i64.wrap (y - M) = y - M := IntWalk.i64_in _ (by omega)
        have Held := Lib.hid (fun w' (h : Bel w1 w') => show w'.cell? ⟨b, o + q, none⟩ = some (.int .i64 y) ∧ w'.cell? ⟨b', o' + q, none⟩ = some (.int .i64 x) from ⟨by rw [h.use.1 _ _ hbl]; exact hc1, by rw [h.use.1 _ _ hbl']; exact hd1'⟩)
        have HS1 := Lib.hid (lim_short (ks := ks) (n := k) (r := r) hqk hg' hg x0)
        rw [← hM] at HS1
        have HG1 := Lib.hid (getD_at hg'); have HG2 := Lib.hid (getD_at hg)
        have HMM := Lib.hid hM
        have hcc := Held.out _ hbr
        obtain ⟨hcy, hcx⟩ := hcc
        clear hg hg' hP hO hOl hml hvm hPl hM hc1 hc1' hd1'
        obtain ⟨wo, hwo⟩ : ∃ wo : World, wo = wr := ⟨_, rfl⟩
        subst hwo
        go_wp2
        go_region_held_law (fun w' => w'.cell? ⟨b, o + q, none⟩ = some (.int .i64 y) ∧ w'.cell? ⟨b', o' + q, none⟩ = some (.int .i64 x)) (first | (have hB9 := grown_own (w := w1) ((hbr.drewN _).alloc _) HOL.out (Nat.le_refl _) hgr5; exact Held.out _ hB9) | exact Held.out _ (by (repeat (first | exact Bel.refl _ | assumption | refine Bel.drew ?_ | refine Bel.drewN ?_ _ | refine Bel.alloc ?_ _ | refine Bel.setCell ?_ (by first | omega | (simp; done) | (simp; omega) | (simp at *; omega)) _ | refine Bel.trans ?_ (by assumption)))))
          (first | (refine step_append_lies _ rfl (.tmp 35) (.tmp 47) 28 rfl w1.heap.size 3 i1 _ 1 8 Try.underlying28 hj hy0 hy1 hy2 rfl (by decide) u12 q _ (by rfl) ((ownsRow_bel HOL.out (by (repeat (first | exact Bel.refl _ | assumption | refine Bel.drew ?_ | refine Bel.drewN ?_ _ | refine Bel.alloc ?_ _ | refine Bel.setCell ?_ (by first | omega | (simp; done) | (simp; omega) | (simp at *; omega)) _ | refine Bel.trans ?_ (by assumption))))).alloc _) ⟨wo.heap.size, 0, none⟩ 1 1 [.int .i64 (y - M)] (by rfl) rfl (new1 _ _ _ _ (by simp)) (one1 _) (by omega) hX1.out hX2.out (by simp <;> omega) _ rfl ?_; intro g5 cap5 w5 hown5 hgr5 hat5 hlt5))
        have HR5 := Lib.hid (RunR.left HO.out (W := (wo.drewN _).alloc _) (((Bel.refl wo).drewN _).alloc _) (by rw [HPL.out]; exact hown5) hgr5)
        have hcl := World.ownsRow.cells (g := g5) hown5 rfl q (.int .i64 (y - M)) (by rw [List.getElem?_append_right (by rw [List.length_map, HPL.out]; exact Nat.le_refl _), List.length_map, HPL.out, Nat.sub_self]; rfl)
        rw [Go.Addr.add_mid, Nat.zero_add] at hcl
        have HCL := Lib.hid hcl
        clear hown5 hgr5 hat5 k1 k2
        by_cases hneg : y < M
        · have hneg2 : y - M < 0 := by omega
          have HNN := Lib.hid (HNO.out (HS1.out hneg))
          clear hcl
          have hcl : w5.cell? ⟨g5, q, none⟩ = some (.int .i64 (y - M)) := HCL.out
          go_wp2
          go_ret3
          exact ⟨none, 0, 0, none, 0, 0, ret_t3 HNN.out.1.symm, by rw [HNN.out.2.1]; rfl, by rw [HNN.out.2.2]; rfl, by obtain ⟨base, _, _, h3, _⟩ := HR5.out; exact hw1.trans h3, by rw [HNN.out.2.1]; exact .inl rfl, by rw [HNN.out.2.2]; exact .inl rfl⟩
        · have hneg2 : 0 ≤ y - M := by omega
          go_wp2
          go_roundw
          case rel => exact ⟨q + 1, by omega, by go_num, by rw [HQ.out, HQ2.out]; exact HR5.out, fun _ => rfl, fun i hi => by
            rcases (by omega : i < min q k ∨ i = q) with h | rfl
            · exact HFQ.out i h
            · rw [HG1.out, HG2.out, ← HMM.out]; omega⟩
          case measure => simp [intOf]; omega
      · have hqki : (k : Int) ≤ (q : Int) := by omega
        have HQ := Lib.hid (show madeL r ts k (q + 1 - k) = madeL r ts k (q - k) ++ [r * x] by
          rw [show q + 1 - k = (q - k) + 1 by omega]
          exact made_step (by rw [show k + (q - k) = q by omega]; exact hg'))
        have HQ2 := Lib.hid (show leftL r ts ks (min (q + 1) k) = leftL r ts ks (min q k) by rw [Nat.min_eq_right (by omega), Nat.min_eq_right (by omega)])
        have hPl : (madeL r ts k (q - k)).length ≤ 6 := by rw [madeL_len]; omega
        obtain ⟨P, hP⟩ : ∃ P, P = madeL r ts k (q - k) := ⟨_, rfl⟩
        rw [← hP] at hO hPl HQ
        obtain ⟨base, h1, h2, h3, h4, h5, h6⟩ := hO
        have HO5 := Lib.hid h5
        have H4 := Lib.hid h4
        have H6 := Lib.hid h6
        have hX1 := Lib.hid (show P.length + 1 ≤ maxLen by unfold maxLen; omega)
        have hX2 := Lib.hid (show (P.length + 1) * 8 ≤ 140737488355328 by omega)
        clear hg' hP h4 h5 h6 hvm hd1'
        go_wp2_with (at_builtin; go_loud (refine wpList_append_lies _ rfl (.tmp 54) (.tmp 61) 28 rfl base 3 i1 _ 1 8 Try.underlying28 hj hy0 hy1 hy2 rfl (by decide) u13 _ _ (by rfl) (Own1.alloc HO5.out _) ⟨wr.heap.size, 0, none⟩ 1 1 [.int .i64 (r * x)] (by rfl) rfl (new1 _ _ _ _ rfl) (one1 _) (by omega) hX1.out hX2.out (by simp <;> omega) _ rfl ?_); intro g5 cap5 w5 hown5 hgr5 hat5 hlt5)
        have HR5 := Lib.hid (RunR.made h1 h2 h3 H4.out HO5.out H6.out ((Bel.refl wr).alloc _) hown5 hgr5)
        clear hown5 hgr5 hat5 hlt5
        go_roundw
        case rel => exact ⟨q + 1, by omega, by go_num, by rw [HQ.out, HQ2.out]; exact HR5.out, fun h => absurd h (by omega), fun i hi => HFQ.out i (by omega)⟩
        case measure => simp [intOf]; omega
    · obtain rfl : q = t := by omega
      rw [Nat.min_eq_right hkt] at hO HFQ
      obtain ⟨base, h1, h2, h3, h4, h5, h6⟩ := hO
      obtain ⟨A9, n9, c9, rfl, hn9, hI9⟩ := h4.form
      obtain ⟨B9, m9, d9, rfl, hm9, hJ9⟩ := h5.form
      have HN9 := Lib.hid hn9; have HM9 := Lib.hid hm9
      have HOO := Lib.hid (HOK.out (HFI.out HFQ.out))
      clear hn9 hm9 h4 h5 h6 hvm
      go_wp2
      go_ret3
      exact ⟨A9, n9, c9, B9, m9, d9, ret_t3 HOO.out.1.symm, by rw [HOO.out.2.1]; exact HN9.out, by rw [HOO.out.2.2]; exact HM9.out, by (repeat (first | exact Bel.refl _ | assumption | refine Bel.drew ?_ | refine Bel.drewN ?_ _ | refine Bel.alloc ?_ _ | refine Bel.setCell ?_ (by first | omega | (simp; done) | (simp; omega) | (simp at *; omega)) _ | refine Bel.trans ?_ (by assumption))), by rw [HOO.out.2.1]; exact hI9, by rw [HOO.out.2.2]; exact hJ9⟩
end Go.Proofs.Ytfjegdejfccgaaa
