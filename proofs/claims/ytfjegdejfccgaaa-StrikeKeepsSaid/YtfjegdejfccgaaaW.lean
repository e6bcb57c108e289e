/- Run by the program. -/
import Derived.Test.YtfjegdejfccgaaaV
import Derived.Deep.Onto
namespace Go.Proofs.Ytfjegdejfccgaaa
open Go.RowKit

/-- What is left of the first compounds, and what comes out. -/
def leftL (r : Int) (ts ks : List Int) (q : Nat) : List Int := (List.range q).map fun i => ks.getD i 0 - r * ts.getD i 0
def madeL (r : Int) (ts : List Int) (k q : Nat) : List Int := (List.range q).map fun j => r * ts.getD (k + j) 0
theorem left_step {r : Int} {ts ks : List Int} {q : Nat} {x y : Int} (hx : ts[q]? = some x) (hy : ks[q]? = some y) : leftL r ts ks (q + 1) = leftL r ts ks q ++ [y - r * x] := by
  unfold leftL
  rw [List.range_succ, List.map_append]
  simp only [List.map_cons, List.map_nil]
  rw [getD_at hx, getD_at hy]
theorem made_step {r : Int} {ts : List Int} {k q : Nat} {x : Int} (hx : ts[k + q]? = some x) : madeL r ts k (q + 1) = madeL r ts k q ++ [r * x] := by
  unfold madeL
  rw [List.range_succ, List.map_append]
  simp only [List.map_cons, List.map_nil]
  rw [getD_at hx]
theorem leftL_len (r : Int) (ts ks : List Int) (q : Nat) : (leftL r ts ks q).length = q := by simp [leftL]
theorem madeL_len (r : Int) (ts : List Int) (k q : Nat) : (madeL r ts k q).length = q := by simp [madeL]
/-- The error of Run. -/
def errU (X Y : List (List Int)) (ts ks : List Int) (r : Int) : Int := if errR X Y ts ks = 0 then if 0 ≤ r ∧ r ≤ 1000 then if r ≤ limTo ts ks X.length then 0 else 9 else 1 else errR X Y ts ks
def leftV (X Y : List (List Int)) (ts ks : List Int) (r : Int) : List Int := if errU X Y ts ks r = 0 then leftL r ts ks X.length else []
def madeV (X Y : List (List Int)) (ts ks : List Int) (r : Int) : List Int := if errU X Y ts ks r = 0 then madeL r ts X.length Y.length else []
/-- What a run's loop leaves: what is left, and what is made, apart. -/
def RunR (w1 wr : World) (vl vm : Value) (l p : List Int) : Prop := ∃ base, w1.heap.size ≤ base ∧ base ≤ wr.heap.size ∧ Bel w1 wr ∧ Own1 3 w1.heap.size wr vl l ∧ Own1 3 base wr vm p ∧ ∀ g, vl.ownBlock = some g → g < base
theorem RunR.zero (w1 : World) : RunR w1 w1 (.slice none 0 0) (.slice none 0 0) [] [] := ⟨w1.heap.size, Nat.le_refl _, Nat.le_refl _, Bel.refl _, Own1.nil _ _ _, Own1.nil _ _ _, fun g h => by cases h⟩
theorem RunR.bel {w1 wr w' : World} {vl vm : Value} {l p : List Int} (h : RunR w1 wr vl vm l p) (hb : Bel wr w') : RunR w1 w' vl vm l p := by
  obtain ⟨base, h1, h2, h3, h4, h5, h6⟩ := h
  exact ⟨base, h1, Nat.le_trans h2 hb.size, h3.trans hb, h4.bel hb, h5.bel hb, h6⟩
/-- One more is left. -/
theorem RunR.left {w1 wr W w3 : World} {vl vl' : Value} {l : List Int} {a : Int} (h : RunR w1 wr vl (.slice none 0 0) l []) (hW : Bel wr W)
    (hown : w3.ownsRow w1.heap.size 3 1 vl' (l.length + 1) ((l.map fun x => .int .i64 x) ++ [.int .i64 a])) (hg : W.grownBy w3 vl.ownBlock) : RunR w1 w3 vl' (.slice none 0 0) (l ++ [a]) [] := by
  obtain ⟨base, h1, h2, h3, h4, h5, h6⟩ := h
  have hb := grown_own (w := w1) (h3.trans hW) h4 (Nat.le_refl _) hg
  exact ⟨w3.heap.size, hb.size, Nat.le_refl _, hb, Own1.snoc hown, Own1.nil _ _ _, fun g e => (World.ownsRow.lt hown g e).2⟩
/-- One more is made. -/
theorem RunR.made {w1 wr W w3 : World} {vl vm vm' : Value} {l p : List Int} {a : Int} {base : Nat} (h1 : w1.heap.size ≤ base) (h2 : base ≤ wr.heap.size) (h3 : Bel w1 wr) (h4 : Own1 3 w1.heap.size wr vl l) (h5 : Own1 3 base wr vm p) (h6 : ∀ g, vl.ownBlock = some g → g < base) (hW : Bel wr W)
    (hown : w3.ownsRow base 3 1 vm' (p.length + 1) ((p.map fun x => .int .i64 x) ++ [.int .i64 a])) (hg : W.grownBy w3 vm.ownBlock) : RunR w1 w3 vl vm' l (p ++ [a]) := by
  have hb := grown_own (w := w1) (h3.trans hW) (World.ownsRow.mono h5 h1) (Nat.le_refl _) hg
  refine ⟨base, h1, Nat.le_trans h2 (Nat.le_trans hW.size hg.size), hb, ?_, Own1.snoc hown, h6⟩
  refine World.ownsRow.kept (h4.bel hW) hg ?_
  cases hv : vl.ownBlock with
  | none => exact .inl rfl
  | some g =>
    refine .inr fun e => ?_
    have := (World.ownsRow.lt h5 g e.symm).1
    have := h6 g hv
    omega
theorem mulRun {r x : Int} (r0 : 0 ≤ r) (r1 : r ≤ 1000) (x0 : 1 ≤ x) (x9 : x ≤ 1000000) : 0 ≤ r * x ∧ r * x ≤ 1000000000 := by
  refine ⟨Int.mul_nonneg r0 (by omega), ?_⟩
  have h1 : r * x ≤ 1000 * x := Int.mul_le_mul_of_nonneg_right r1 (by omega)
  omega
set_option maxRecDepth 100000 in
set_option maxHeartbeats 2000000 in
theorem run_ok (A B : Option Addr) (n c m d : Nat) (X Y : List (List Int)) (T : Option Addr) (t u : Nat) (ts : List Int) (K : Option Addr) (k v : Nat) (ks : List Int) (r : Int) (w : World) (hS : Strk w A n B m X Y) (hT : Ints w T ts) (ht : ts.length = t) (htu : t ≤ u) (hmax : u ≤ maxLen) (hK : Ints w K ks) (hk : ks.length = k) (hkm : k ≤ maxLen)
    (he : errR X Y ts ks = 0) (hr0 : 0 ≤ r) (hr1 : r ≤ 1000) (hrl : r ≤ limTo ts ks X.length) :
    Calls Try.prog 60 #[.agg #[.slice A n c, .slice B m d], .slice T t u, .slice K k v, .int .i64 r] w (Two w (leftL r ts ks X.length) (madeL r ts X.length Y.length)) := by
  have Ht := Lib.hid ht; have Hk := Lib.hid hk
  obtain ⟨i1, hj, hy0, hy1, hy2⟩ := info_parts info1I
  obtain ⟨hz, hs, hp, hb⟩ := errR_cases he
  have HZ := Lib.hid he
  obtain ⟨kb, kl⟩ := listB_yes hs
  have hX := hS.lx
  have hkn : k = n := by rw [← hk, ← hX]; omega
  have htm0 : tmB X Y ts = true := by
    rcases errT_cases X Y ts with ⟨_, h, _⟩ | h
    · exact h
    · rw [hz] at h; cases h
  obtain ⟨tb, tl⟩ := tm_of htm0
  have hS0 : errS X Y = 0 := by
    rcases errT_cases X Y ts with ⟨h, _, _⟩ | h
    · exact h
    · rw [hz] at h; cases h
  have hSt := str_of hS0
  have htb : ∀ x ∈ ts, 1 ≤ x ∧ x ≤ 1000000 := fun x hx => ⟨of_decide_eq_true (List.all_eq_true.1 hp x hx), (tb x hx).2⟩
  have hkt : k ≤ t := by rw [← hk, ← ht, tl]; omega
  have ht6 : t ≤ 6 := by rw [← ht, tl]; have := hSt.x3; have := hSt.y3; omega
  have htk : t - k = Y.length := by rw [← hk, ← ht, tl]; omega
  have hkX : X.length = k := by rw [hX, hkn]
  have HTB := Lib.hid htb; have HKB := Lib.hid kb
  rw [hkX, ← htk]
  rw [hkX] at hrl
  obtain ⟨R, hR⟩ : ∃ R, R = limTo ts ks k := ⟨_, rfl⟩
  rw [← hR] at hrl
  have HR := Lib.hid hR
  have hk6 : (k : Int) ≤ 6 := by omega
  have ht6i : (t : Int) ≤ 6 := by omega
  clear he hz hs hp hb kb kl hX hkn htm0 tb tl hS0 hSt htb ht hk hR htk hkX
  go_enter Try.func60, Try.ntmps60
  go_wp2_with fail
  refine (validateRuns_any A B n c m d X Y T t u ts K k v ks _ (hS.bel (by (repeat (first | exact Bel.refl _ | assumption | refine Bel.drew ?_ | refine Bel.drewN ?_ _ | refine Bel.alloc ?_ _ | refine Bel.setCell ?_ (by first | omega | (simp; done) | (simp; omega) | (simp at *; omega)) _ | refine Bel.trans ?_ (by assumption))))) (hT.bel (by (repeat (first | exact Bel.refl _ | assumption | refine Bel.drew ?_ | refine Bel.drewN ?_ _ | refine Bel.alloc ?_ _ | refine Bel.setCell ?_ (by first | omega | (simp; done) | (simp; omega) | (simp at *; omega)) _ | refine Bel.trans ?_ (by assumption))))) Ht.out htu hmax (hK.bel (by (repeat (first | exact Bel.refl _ | assumption | refine Bel.drew ?_ | refine Bel.drewN ?_ _ | refine Bel.alloc ?_ _ | refine Bel.setCell ?_ (by first | omega | (simp; done) | (simp; omega) | (simp at *; omega)) _ | refine Bel.trans ?_ (by assumption))))) Hk.out hkm).mono ?_
  rintro e w1 ⟨rfl, hb1⟩
  rw [HZ.out]
  have hw1 : Bel w w1 := ((Bel.refl w).alloc _).trans hb1
  go_wp2_with fail
  refine (limit_any T t u ts K k v ks _ (hT.bel hw1) Ht.out (hK.bel hw1) Hk.out hkt (by omega) HTB.out HKB.out).mono ?_
  rintro e w2 ⟨rfl, rfl⟩
  rw [← HR.out]
  go_wp2
  go_loopw [12, 13, 36] (fun vl vm i wr => ∃ q : Nat, q ≤ t ∧ i = .int .i64 q ∧ RunR w1 wr vl vm (leftL r ts ks (min q k)) (madeL r ts k (q - k)) ∧ (q ≤ k → vm = .slice none 0 0)) (fun _ _ i _ => t - (intOf i).toNat)
  case atStart => exact ⟨0, Nat.zero_le _, rfl, by rw [Nat.zero_min, Nat.zero_sub]; exact RunR.zero w1, fun _ => rfl⟩
  case round =>
    obtain ⟨q, hq, rfl, hO, hvm⟩ := hrel
    by_cases hlt : q < t
    · have hbr : Bel w1 wr := by obtain ⟨base, h1, h2, h3, _⟩ := hO; exact h3
      obtain ⟨b', o', x, rfl, hbl', hg', hc1'⟩ := (hT.bel (hw1.trans hbr)).at_ (k := q) (by rw [Ht.out]; exact hlt)
      have hqt : (q : Int) < (t : Int) := by omega
      obtain ⟨x0, x9⟩ := HTB.out x (List.mem_of_getElem? hg')
      obtain ⟨p1, p2⟩ := mulRun hr0 hr1 x0 x9
      have hwz := hbr.size
      by_cases hqk : q < k
      · have hqki : (q : Int) < (k : Int) := by omega
        obtain ⟨b, o, y, rfl, hbl, hg, hc1⟩ := (hK.bel (hw1.trans hbr)).at_ (k := q) (by rw [Hk.out]; exact hqk)
        obtain ⟨y0, y9⟩ := HKB.out y (List.mem_of_getElem? hg)
        have HQ := Lib.hid (show leftL r ts ks (min (q + 1) k) = leftL r ts ks (min q k) ++ [y - r * x] by rw [Nat.min_eq_left (by omega), Nat.min_eq_left (by omega)]; exact left_step hg' hg)
        have HQ2 := Lib.hid (show madeL r ts k (q + 1 - k) = [] by rw [show q + 1 - k = 0 by omega]; rfl)
        have hml : madeL r ts k (q - k) = [] := by rw [show q - k = 0 by omega]; rfl
        obtain rfl := hvm (by omega)
        rw [hml] at hO
        have hPl : (leftL r ts ks (min q k)).length ≤ 6 := by rw [leftL_len]; omega
        obtain ⟨P, hP⟩ : ∃ P, P = leftL r ts ks (min q k) := ⟨_, rfl⟩
        rw [← hP] at hO hPl HQ
        have hOl : Own1 3 w1.heap.size wr u12 P := by obtain ⟨base, h1, h2, h3, h4, _⟩ := hO; exact h4
        have HO := Lib.hid hO
        have HOL := Lib.hid hOl
        have hX1 := Lib.hid (show P.length + 1 ≤ maxLen by unfold maxLen; omega)
        have hX2 := Lib.hid (show (P.length + 1) * 8 ≤ 140737488355328 by omega)
        clear hg hg' hP hO hOl hml hvm
        go_wp2_with (at_builtin; go_loud (refine wpList_append_lies _ rfl (.tmp 45) (.tmp 54) 28 rfl w1.heap.size 3 i1 _ 1 8 Try.underlying28 hj hy0 hy1 hy2 rfl (by decide) u12 _ _ (by rfl) (Own1.alloc HOL.out _) ⟨wr.heap.size, 0, none⟩ 1 1 [.int .i64 (y - r * x)] (by rfl) rfl (new1 _ _ _ _ rfl) (one1 _) (by omega) hX1.out hX2.out (by simp <;> omega) _ rfl ?_); intro g5 cap5 w5 hown5 hgr5 hat5 hlt5)
        have HR5 := Lib.hid (RunR.left HO.out ((Bel.refl wr).alloc _) hown5 hgr5)
        clear hown5 hgr5 hat5 hlt5
        go_roundw
        case rel => exact ⟨q + 1, by omega, by go_num, by rw [HQ.out, HQ2.out]; exact HR5.out, fun _ => rfl⟩
        case measure => simp [intOf]; omega
      · have hqki : (k : Int) ≤ (q : Int) := by omega
        have HQ := Lib.hid (show madeL r ts k (q + 1 - k) = madeL r ts k (q - k) ++ [r * x] by
          rw [show q + 1 - k = (q - k) + 1 by omega]
          exact made_step (by rw [show k + (q - k) = q by omega]; exact hg'))
        have HQ2 := Lib.hid (show leftL r ts ks (min (q + 1) k) = leftL r ts ks (min q k) by rw [Nat.min_eq_right (by omega), Nat.min_eq_right (by omega)])
        have hPl : (madeL r ts k (q - k)).length ≤ 6 := by rw [madeL_len]; omega
        obtain ⟨P, hP⟩ : ∃ P, P = madeL r ts k (q - k) := ⟨_, rfl⟩
        rw [← hP] at hO hPl HQ
        obtain ⟨base, h1, h2, h3, h4, h5, h6⟩ := hO
        have HO5 := Lib.hid h5
        have H4 := Lib.hid h4
        have H6 := Lib.hid h6
        have hX1 := Lib.hid (show P.length + 1 ≤ maxLen by unfold maxLen; omega)
        have hX2 := Lib.hid (show (P.length + 1) * 8 ≤ 140737488355328 by omega)
        clear hg' hP h4 h5 h6 hvm
        go_wp2_with (at_builtin; go_loud (refine wpList_append_lies _ rfl (.tmp 56) (.tmp 60) 28 rfl base 3 i1 _ 1 8 Try.underlying28 hj hy0 hy1 hy2 rfl (by decide) u13 _ _ (by rfl) (Own1.alloc HO5.out _) ⟨wr.heap.size, 0, none⟩ 1 1 [.int .i64 (r * x)] (by rfl) rfl (new1 _ _ _ _ rfl) (one1 _) (by omega) hX1.out hX2.out (by simp <;> omega) _ rfl ?_); intro g5 cap5 w5 hown5 hgr5 hat5 hlt5)
        have HR5 := Lib.hid (RunR.made h1 h2 h3 H4.out HO5.out H6.out ((Bel.refl wr).alloc _) hown5 hgr5)
        clear hown5 hgr5 hat5 hlt5
        go_roundw
        case rel => exact ⟨q + 1, by omega, by go_num, by rw [HQ.out, HQ2.out]; exact HR5.out, fun h => absurd h (by omega)⟩
        case measure => simp [intOf]; omega
    · obtain rfl : q = t := by omega
      rw [Nat.min_eq_right hkt] at hO
      obtain ⟨base, h1, h2, h3, h4, h5, h6⟩ := hO
      obtain ⟨A9, n9, c9, rfl, hn9, hI9⟩ := h4.form
      obtain ⟨B9, m9, d9, rfl, hm9, hJ9⟩ := h5.form
      have HN9 := Lib.hid hn9; have HM9 := Lib.hid hm9
      clear hn9 hm9 h4 h5 h6 hvm
      go_wp2
      go_ret3
      exact ⟨A9, n9, c9, B9, m9, d9, rfl, HN9.out, HM9.out, by (repeat (first | exact Bel.refl _ | assumption | refine Bel.drew ?_ | refine Bel.drewN ?_ _ | refine Bel.alloc ?_ _ | refine Bel.setCell ?_ (by first | omega | (simp; done) | (simp; omega) | (simp at *; omega)) _ | refine Bel.trans ?_ (by assumption))), hI9, hJ9⟩
/-- Three results of Run. -/
theorem errU_bad {X Y : List (List Int)} {ts ks : List Int} {r : Int} (h : errR X Y ts ks ≠ 0) : errU X Y ts ks r = errR X Y ts ks := by unfold errU; rw [if_neg h]
theorem errU_arg {X Y : List (List Int)} {ts ks : List Int} {r : Int} (h : errR X Y ts ks = 0) (k : ¬ (0 ≤ r ∧ r ≤ 1000)) : errU X Y ts ks r = 1 := by unfold errU; rw [if_pos h, if_neg k]
theorem errU_short {X Y : List (List Int)} {ts ks : List Int} {r : Int} (h : errR X Y ts ks = 0) (k : 0 ≤ r ∧ r ≤ 1000) (l : ¬ r ≤ limTo ts ks X.length) : errU X Y ts ks r = 9 := by unfold errU; rw [if_pos h, if_pos k, if_neg l]
theorem errU_ok {X Y : List (List Int)} {ts ks : List Int} {r : Int} (h : errR X Y ts ks = 0) (k : 0 ≤ r ∧ r ≤ 1000) (l : r ≤ limTo ts ks X.length) : errU X Y ts ks r = 0 := by unfold errU; rw [if_pos h, if_pos k, if_pos l]
/-- What follows if times and stock are right. -/
structure Rts (n m t k : Nat) (X Y : List (List Int)) (ts ks : List Int) : Prop where
  htb : ∀ x ∈ ts, 1 ≤ x ∧ x ≤ 1000000
  hkb : ∀ x ∈ ks, 0 ≤ x ∧ x ≤ 1000
  kt : k ≤ t
  t6 : t ≤ 6
  k1 : 1 ≤ k
  kX : X.length = k
  tk : t - k = Y.length
theorem rts_of {X Y : List (List Int)} {ts ks : List Int} {t k : Nat} (he : errR X Y ts ks = 0) (ht : ts.length = t) (hk : ks.length = k) : Rts X.length Y.length t k X Y ts ks := by
  obtain ⟨hz, hs, hp, hb⟩ := errR_cases he
  obtain ⟨kb, kl⟩ := listB_yes hs
  have htm0 : tmB X Y ts = true := by
    rcases errT_cases X Y ts with ⟨_, h, _⟩ | h
    · exact h
    · rw [hz] at h; cases h
  obtain ⟨tb, tl⟩ := tm_of htm0
  have hS0 : errS X Y = 0 := by
    rcases errT_cases X Y ts with ⟨h, _, _⟩ | h
    · exact h
    · rw [hz] at h; cases h
  have hSt := str_of hS0
  have h1 := hSt.x1; have h2 := hSt.x3; have h3 := hSt.y3
  exact ⟨fun x hx => ⟨of_decide_eq_true (List.all_eq_true.1 hp x hx), (tb x hx).2⟩, kb, by omega, by omega, by omega, by omega, by omega⟩
set_option maxRecDepth 100000 in
set_option maxHeartbeats 2000000 in
theorem run_any (A B : Option Addr) (n c m d : Nat) (X Y : List (List Int)) (T : Option Addr) (t u : Nat) (ts : List Int) (K : Option Addr) (k v : Nat) (ks : List Int) (r : Int) (w : World) (hS : Strk w A n B m X Y) (hT : Ints w T ts) (ht : ts.length = t) (htu : t ≤ u) (hmax : u ≤ maxLen) (hK : Ints w K ks) (hk : ks.length = k) (hkm : k ≤ maxLen) :
    Calls Try.prog 60 #[.agg #[.slice A n c, .slice B m d], .slice T t u, .slice K k v, .int .i64 r] w (Three w (leftV X Y ts ks r) (madeV X Y ts ks r) (errU X Y ts ks r)) := by
  have Ht := Lib.hid ht; have Hk := Lib.hid hk
  by_cases he : errR X Y ts ks = 0
  · have hts := rts_of he ht hk
    by_cases hr : 0 ≤ r ∧ r ≤ 1000
    · by_cases hl : r ≤ limTo ts ks X.length
      · have hu := errU_ok he hr hl
        refine (run_ok A B n c m d X Y T t u ts K k v ks r w hS hT ht htu hmax hK hk hkm he hr.1 hr.2 hl).mono ?_
        rintro e w' ⟨A1, n1, c1, A2, n2, c2, rfl, h1, h2, h3, h4, h5⟩
        have e1 : leftV X Y ts ks r = leftL r ts ks X.length := by unfold leftV; rw [if_pos hu]
        have e2 : madeV X Y ts ks r = madeL r ts X.length Y.length := by unfold madeV; rw [if_pos hu]
        exact ⟨A1, n1, c1, A2, n2, c2, by rw [hu], by rw [e1]; exact h1, by rw [e2]; exact h2, h3, by rw [e1]; exact h4, by rw [e2]; exact h5⟩
      · have hu := errU_short he hr hl
        have HU := Lib.hid hu
        have HV1 := Lib.hid (show leftV X Y ts ks r = [] by unfold leftV; rw [hu]; rfl)
        have HV2 := Lib.hid (show madeV X Y ts ks r = [] by unfold madeV; rw [hu]; rfl)
        rw [hts.kX] at hl
        have HZ := Lib.hid he
        have HTB := Lib.hid hts.htb; have HKB := Lib.hid hts.hkb
        have hkt := hts.kt; have ht6 := hts.t6
        obtain ⟨r0, r1⟩ := hr
        obtain ⟨R, hR⟩ : ∃ R, R = limTo ts ks k := ⟨_, rfl⟩
        rw [← hR] at hl
        have HR := Lib.hid hR
        have hRr : R < r := by omega
        clear he hts hu hl hR ht hk
        go_enter Try.func60, Try.ntmps60
        go_wp2_with fail
        refine (validateRuns_any A B n c m d X Y T t u ts K k v ks _ (hS.bel (by (repeat (first | exact Bel.refl _ | assumption | refine Bel.drew ?_ | refine Bel.drewN ?_ _ | refine Bel.alloc ?_ _ | refine Bel.setCell ?_ (by first | omega | (simp; done) | (simp; omega) | (simp at *; omega)) _ | refine Bel.trans ?_ (by assumption))))) (hT.bel (by (repeat (first | exact Bel.refl _ | assumption | refine Bel.drew ?_ | refine Bel.drewN ?_ _ | refine Bel.alloc ?_ _ | refine Bel.setCell ?_ (by first | omega | (simp; done) | (simp; omega) | (simp at *; omega)) _ | refine Bel.trans ?_ (by assumption))))) Ht.out htu hmax (hK.bel (by (repeat (first | exact Bel.refl _ | assumption | refine Bel.drew ?_ | refine Bel.drewN ?_ _ | refine Bel.alloc ?_ _ | refine Bel.setCell ?_ (by first | omega | (simp; done) | (simp; omega) | (simp at *; omega)) _ | refine Bel.trans ?_ (by assumption))))) Hk.out hkm).mono ?_
        rintro e w1 ⟨rfl, hb1⟩
        rw [HZ.out]
        have hw1 : Bel w w1 := ((Bel.refl w).alloc _).trans hb1
        go_wp2_with fail
        refine (limit_any T t u ts K k v ks _ (hT.bel hw1) Ht.out (hK.bel hw1) Hk.out hkt (by omega) HTB.out HKB.out).mono ?_
        rintro e w2 ⟨rfl, rfl⟩
        rw [← HR.out]
        go_wp2
        go_ret3
        exact ⟨none, 0, 0, none, 0, 0, ret_t3 HU.out.symm, by rw [HV1.out]; rfl, by rw [HV2.out]; rfl, hw1, by rw [HV1.out]; exact .inl rfl, by rw [HV2.out]; exact .inl rfl⟩
    · have hu := errU_arg he hr
      have HU := Lib.hid hu
      have HV1 := Lib.hid (show leftV X Y ts ks r = [] by unfold leftV; rw [hu]; rfl)
      have HV2 := Lib.hid (show madeV X Y ts ks r = [] by unfold madeV; rw [hu]; rfl)
      have HZ := Lib.hid he
      clear he hts hu ht hk
      rcases (by omega : r < 0 ∨ (0 ≤ r ∧ 1000 < r)) with h1 | ⟨h1, h2⟩
      · clear hr
        go_enter Try.func60, Try.ntmps60
        go_wp2_with fail
        refine (validateRuns_any A B n c m d X Y T t u ts K k v ks _ (hS.bel (by (repeat (first | exact Bel.refl _ | assumption | refine Bel.drew ?_ | refine Bel.drewN ?_ _ | refine Bel.alloc ?_ _ | refine Bel.setCell ?_ (by first | omega | (simp; done) | (simp; omega) | (simp at *; omega)) _ | refine Bel.trans ?_ (by assumption))))) (hT.bel (by (repeat (first | exact Bel.refl _ | assumption | refine Bel.drew ?_ | refine Bel.drewN ?_ _ | refine Bel.alloc ?_ _ | refine Bel.setCell ?_ (by first | omega | (simp; done) | (simp; omega) | (simp at *; omega)) _ | refine Bel.trans ?_ (by assumption))))) Ht.out htu hmax (hK.bel (by (repeat (first | exact Bel.refl _ | assumption | refine Bel.drew ?_ | refine Bel.drewN ?_ _ | refine Bel.alloc ?_ _ | refine Bel.setCell ?_ (by first | omega | (simp; done) | (simp; omega) | (simp at *; omega)) _ | refine Bel.trans ?_ (by assumption))))) Hk.out hkm).mono ?_
        rintro e w1 ⟨rfl, hb1⟩
        rw [HZ.out]
        go_wp2
        go_ret3
        exact ⟨none, 0, 0, none, 0, 0, ret_t3 HU.out.symm, by rw [HV1.out]; rfl, by rw [HV2.out]; rfl, by (repeat (first | exact Bel.refl _ | assumption | refine Bel.drew ?_ | refine Bel.drewN ?_ _ | refine Bel.alloc ?_ _ | refine Bel.setCell ?_ (by first | omega | (simp; done) | (simp; omega) | (simp at *; omega)) _ | refine Bel.trans ?_ (by assumption))), by rw [HV1.out]; exact .inl rfl, by rw [HV2.out]; exact .inl rfl⟩
      · clear hr
        go_enter Try.func60, Try.ntmps60
        go_wp2_with fail
        refine (validateRuns_any A B n c m d X Y T t u ts K k v ks _ (hS.bel (by (repeat (first | exact Bel.refl _ | assumption | refine Bel.drew ?_ | refine Bel.drewN ?_ _ | refine Bel.alloc ?_ _ | refine Bel.setCell ?_ (by first | omega | (simp; done) | (simp; omega) | (simp at *; omega)) _ | refine Bel.trans ?_ (by assumption))))) (hT.bel (by (repeat (first | exact Bel.refl _ | assumption | refine Bel.drew ?_ | refine Bel.drewN ?_ _ | refine Bel.alloc ?_ _ | refine Bel.setCell ?_ (by first | omega | (simp; done) | (simp; omega) | (simp at *; omega)) _ | refine Bel.trans ?_ (by assumption))))) Ht.out htu hmax (hK.bel (by (repeat (first | exact Bel.refl _ | assumption | refine Bel.drew ?_ | refine Bel.drewN ?_ _ | refine Bel.alloc ?_ _ | refine Bel.setCell ?_ (by first | omega | (simp; done) | (simp; omega) | (simp at *; omega)) _ | refine Bel.trans ?_ (by assumption))))) Hk.out hkm).mono ?_
        rintro e w1 ⟨rfl, hb1⟩
        rw [HZ.out]
        go_wp2
        go_ret3
        exact ⟨none, 0, 0, none, 0, 0, ret_t3 HU.out.symm, by rw [HV1.out]; rfl, by rw [HV2.out]; rfl, by (repeat (first | exact Bel.refl _ | assumption | refine Bel.drew ?_ | refine Bel.drewN ?_ _ | refine Bel.alloc ?_ _ | refine Bel.setCell ?_ (by first | omega | (simp; done) | (simp; omega) | (simp at *; omega)) _ | refine Bel.trans ?_ (by assumption))), by rw [HV1.out]; exact .inl rfl, by rw [HV2.out]; exact .inl rfl⟩
  · have hu := errU_bad (r := r) he
    have HV1 := Lib.hid (show leftV X Y ts ks r = [] by unfold leftV; rw [hu, if_neg he])
    have HV2 := Lib.hid (show madeV X Y ts ks r = [] by unfold madeV; rw [hu, if_neg he])
    obtain ⟨x, hx⟩ : ∃ x, x = errR X Y ts ks := ⟨_, rfl⟩
    have hne : (x != 0) = true := by rw [hx]; simpa using he
    rw [← hx] at hu
    have HX := Lib.hid hx
    have HU := Lib.hid hu
    clear he hx hu ht hk
    go_enter Try.func60, Try.ntmps60
    go_wp2_with fail
    refine (validateRuns_any A B n c m d X Y T t u ts K k v ks _ (hS.bel (by (repeat (first | exact Bel.refl _ | assumption | refine Bel.drew ?_ | refine Bel.drewN ?_ _ | refine Bel.alloc ?_ _ | refine Bel.setCell ?_ (by first | omega | (simp; done) | (simp; omega) | (simp at *; omega)) _ | refine Bel.trans ?_ (by assumption))))) (hT.bel (by (repeat (first | exact Bel.refl _ | assumption | refine Bel.drew ?_ | refine Bel.drewN ?_ _ | refine Bel.alloc ?_ _ | refine Bel.setCell ?_ (by first | omega | (simp; done) | (simp; omega) | (simp at *; omega)) _ | refine Bel.trans ?_ (by assumption))))) Ht.out htu hmax (hK.bel (by (repeat (first | exact Bel.refl _ | assumption | refine Bel.drew ?_ | refine Bel.drewN ?_ _ | refine Bel.alloc ?_ _ | refine Bel.setCell ?_ (by first | omega | (simp; done) | (simp; omega) | (simp at *; omega)) _ | refine Bel.trans ?_ (by assumption))))) Hk.out hkm).mono ?_
    rintro e w1 ⟨rfl, hb1⟩
    rw [← HX.out]
    go_wp2
    go_ret3
    exact ⟨none, 0, 0, none, 0, 0, ret_t3 HU.out.symm, by rw [HV1.out]; rfl, by rw [HV2.out]; rfl, by (repeat (first | exact Bel.refl _ | assumption | refine Bel.drew ?_ | refine Bel.drewN ?_ _ | refine Bel.alloc ?_ _ | refine Bel.setCell ?_ (by first | omega | (simp; done) | (simp; omega) | (simp at *; omega)) _ | refine Bel.trans ?_ (by assumption))), by rw [HV1.out]; exact .inl rfl, by rw [HV2.out]; exact .inl rfl⟩
end Go.Proofs.Ytfjegdejfccgaaa
