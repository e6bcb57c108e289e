/- Add of the program. -/
import Derived.Test.YtahkihifgafbnaaYP
import Derived.Laws.IdiomCopy
namespace Go.Proofs.Ytahkihifgafbnaa
open Go.RowKit

/-- A copy whose run is known. -/
theorem wpList_copy_eq {P : Program} {w w' : World} {ops : Array Oper} {rest : List Oper} {o : Oper} {a : Act} {Q : Exit → Act → World → Prop} (hgd : o.guard = none) (d s : Operand) (dT sT : TypeId)
    (ho : o.op = .call { callee := .builtin .copy, args := #[d, s], argTypes := #[dT, sT] }) (x y : Value) (hd : a.eval d = x) (hs : a.eval s = y) {z : Value}
    (hrun : (Builtin.copy_ #[dT, sT] o.type #[x, y]).run P w = .ok z w') (h : wpList P ops Q rest (a.put o.dst z) w') : wpList P ops Q (o :: rest) a w := by
  refine wpList_plain hgd fun K hK => ?_
  unfold Oper.wp
  simp [execOp, ho, resolve, invoke, builtin, hd, hs, hrun, Result.andThen]
  exact hK _ _ h
theorem infoI1 : (Try.prog.info? 3).map (·.size) = some 1 := by kernel_rfl
theorem Grid.fill {base k : Nat} {v : Value} {bs ls cs : Nat → Nat} {i : Nat} (hi : i < k) : ∀ (l : List Int) (off : Nat) {w : World} {f : Nat → Nat → Int}, Grid base w v k bs ls cs f → off + l.length ≤ ls i →
    Grid base (w.setCells (bs i) off (l.map fun x => .int .i64 x)) v k bs ls cs (fun a b => if a = i ∧ off ≤ b ∧ b < off + l.length then l.getD (b - off) 0 else f a b) ∧ ∀ w0, Bel w0 w → w0.heap.size ≤ base → Bel w0 (w.setCells (bs i) off (l.map fun x => .int .i64 x))
  | [], off, w, f, h, hl => by
    refine ⟨h.congr (fun _ _ => rfl) (fun a b _ _ => ?_), fun w0 hb _ => hb⟩
    rw [if_neg (by first | (simp; done) | (simp; omega))]
  | x :: r, off, w, f, h, hl => by
    rw [List.length_cons] at hl
    have h1 := h.put hi (j := off) (by omega) x
    obtain ⟨h2, h3⟩ := Grid.fill hi r (off + 1) h1 (by omega)
    refine ⟨h2.congr (fun _ _ => rfl) (fun a b _ _ => ?_), fun w0 hb hs => h3 w0 (hb.setCell (p := ⟨bs i, off, none⟩) (Nat.le_trans hs (h.lo i hi)) _) hs⟩
    rw [List.length_cons]
    by_cases e : a = i
    · by_cases e2 : b = off
      · subst e2
        rw [if_pos (by omega), if_neg (by omega), if_pos ⟨e, rfl⟩]
        simp
      · by_cases e3 : off + 1 ≤ b ∧ b < off + 1 + r.length
        · rw [if_pos (by omega), if_pos ⟨e, e3⟩]
          rw [show b - off = b - (off + 1) + 1 by omega]
          simp
        · rw [if_neg (by omega), if_neg (by omega), if_neg (by omega)]
    · rw [if_neg (by omega), if_neg (by omega), if_neg (by omega)]
/-- 'copy' of numbers into a row. -/
theorem copy_row {base k : Nat} {w : World} {v : Value} {bs ls cs : Nat → Nat} {f : Nat → Nat → Int} (h : Grid base w v k bs ls cs f) {i : Nat} (hi : i < k) {b o n c d : Nat} {l : List Int} (hI : Ints w (some ⟨b, o, none⟩) l) (hn : l.length = n) (hl : n ≤ ls i) :
    ∃ w', (∀ ty, (Builtin.copy_ #[26, 26] ty #[.slice (some ⟨bs i, 0, none⟩) (ls i) d, .slice (some ⟨b, o, none⟩) n c]).run Try.prog w = .ok (goInt n) w') ∧
      Grid base w' v k bs ls cs (fun a b => if a = i ∧ b < n then l.getD b 0 else f a b) ∧ ∀ w0, Bel w0 w → w0.heap.size ≤ base → Bel w0 w' := by
  obtain ⟨h1, h2⟩ := Grid.fill hi l 0 h (by omega)
  obtain ⟨m, hm, hr⟩ := h.row i hi
  refine ⟨_, fun ty => ?_, h1.congr (fun _ _ => rfl) (fun a b _ _ => ?_), h2⟩
  · have := run_copy_cells (P := Try.prog) w 26 26 ty 3 (bs i) 0 (ls i) d ⟨b, o, none⟩ n c (l.map fun x => .int .i64 x) Try.underlying26 infoI1
      (by rw [List.length_map, hn]; exact (Nat.min_eq_left hl).symm) (ints_cells hI) (fun j hj => by rw [List.length_map] at hj; rw [Nat.zero_add, hr.cells j (by omega)]; rfl) (fun j hj => by rw [Nat.zero_add]; exact hr.fz j) (ints_one l)
    rw [List.length_map, hn] at this
    exact this
  · by_cases e : a = i ∧ b < n
    · rw [if_pos e, if_pos ⟨e.1, Nat.zero_le _, by omega⟩, Nat.sub_zero]
    · rw [if_neg e, if_neg (by omega)]
/-- The table with one more strip. -/
def adF (T : List (List Int)) (l : List Int) (n x y : Nat) : Int := if x < n then (if y < n then ent T x y else 1 - l.getD x 0) else if y < n then l.getD y 0 else 0
/-- Part of a table filled with F: the places P are written. -/
def FillM (w0 : World) (A : Option Addr) (c n : Nat) (bs cs : Nat → Nat) (F : Nat → Nat → Int) (w : World) (P : Nat → Nat → Prop) : Prop :=
  Bel w0 w ∧ ∃ f, Grid w0.heap.size w (.slice A n c) n bs (fun _ => n) cs f ∧ ∀ a b, a < n → b < n → P a b → f a b = F a b
set_option maxRecDepth 100000 in
set_option maxHeartbeats 8000000 in
theorem add_ok (lo : Nat) (A : Option Addr) (n c : Nat) (T : List (List Int)) (B : Option Addr) (d : Nat) (l : List Int) (w : World) (hR : Tab lo w A T) (hn : T.length = n) (hJ : Ints w B l) (hE : errT T = 0) (hB : rowB n l = true) (h6 : n ≤ 6) :
    Calls Try.prog 75 #[.slice A n c, .slice B n d] w fun e w' => ∃ v base, e = .returned (.tuple #[v, .int .i64 0]) ∧ w.heap.size ≤ base ∧ Bel w w' ∧ SqG base w' v (n + 1) (n + 1) (fun x y => adF T l n x y) := by
  obtain ⟨⟨h1, h7⟩, hrw, -⟩ := errT_zero hE
  rw [hn] at h1 h7 hrw
  have hsq := rowsB_square hn hrw
  obtain ⟨hl01, hlen⟩ : (∀ x ∈ l, x = 0 ∨ x = 1) ∧ l.length = n := by
    unfold rowB at hB
    rw [Bool.and_eq_true, List.all_eq_true] at hB
    exact ⟨fun x hx => by simpa using hB.1 x hx, by simpa using hB.2⟩
  obtain ⟨lb, lof, rfl, hlb, hlc⟩ := hJ.news (by intro e; rw [e] at hlen; simp at hlen; omega)
  have HEM : Hid (∀ w : World, Calls Try.prog 106 #[.int .i64 ((n : Int) + 1)] w fun e w' => ∃ v, e = .returned v ∧ Bel w w' ∧ SqG w.heap.size w' v (n + 1) (n + 1) (fun _ _ => 0)) := fun w => by
    have := empty_ok (n + 1) w (by omega)
    rwa [Int.natCast_add] at this
  have HIC : Hid (∀ w : World, Calls Try.prog 81 #[.int .i64 ((n : Int) + 1)] w fun e w' => e = .returned (.bool true) ∧ w = w') := fun w => by
    have := isCount_any (n + 1) w
    rw [decide_eq_true (show 1 ≤ n + 1 ∧ n + 1 ≤ 7 by omega), Int.natCast_add] at this
    exact this
  have HE := Lib.hid hE; have Hn := Lib.hid hn; have HSQ := Lib.hid hsq; have HB := Lib.hid hB; have HLN := Lib.hid hlen; have H01 := Lib.hid hl01
  clear hE hn hrw hsq hB hlen hl01 hlc
  go_enter Try.func75, Try.ntmps75
  go_wp2_with fail
  refine (validate_any lo _ n c T _ hR Hn.out).mono ?_
  rintro e w1 ⟨rfl, hb1⟩
  rw [HE.out]
  have hs1 := hb1.size
  go_wp2_with fail
  refine (areAnswers_any _ n d l n _ (hJ.bel hb1) HLN.out (by unfold maxLen; omega)).mono ?_
  rintro e w2 ⟨rfl, hw2⟩
  subst hw2
  rw [HB.out]
  go_wp2_with fail
  refine (HIC.out _).mono ?_
  rintro e w2 ⟨rfl, hw2⟩
  subst hw2
  go_wp2_with fail
  refine (HEM.out _).mono ?_
  rintro e w2 ⟨v2, rfl, hb12, hG2⟩
  obtain ⟨g2, c2, bs, cs, rfl, hG⟩ := hG2.form (by omega)
  clear hG2
  go_wp2
  go_loopw [8, 9, 31] (fun _ _ i wr => ∃ k : Nat, k ≤ n ∧ i = .int .i64 k ∧ FillM w1 (some ⟨g2, 0, none⟩) c2 (n + 1) bs cs (adF T l n) wr (fun a b => a < k ∨ a = n ∧ b = n)) (fun _ _ i _ => n - (intOf i).toNat)
  case atStart => exact ⟨0, Nat.zero_le _, rfl, hb12, _, hG, fun a b _ _ h => by
    unfold adF
    rw [if_neg (by omega), if_neg (by omega)]⟩
  case round =>
    clear hG
    obtain ⟨k, hk, rfl, hbk, f, hG, hf⟩ := hrel
    have HF := Lib.hid hf
    clear hf
    by_cases hlt : k < n
    · obtain ⟨b3, o3, ns, A3, n3, c3, rfl, hbl, hg, hc1, hI, hl3, hx3⟩ := (hR.bel (hb1.trans hbk)).at_ (k := k) (by rw [Hn.out]; exact hlt)
      have hnl := HSQ.out.2 ns (List.mem_of_getElem? hg)
      obtain rfl : n3 = n := by omega
      obtain ⟨b5, o5, rfl, hb5, -⟩ := hI.news (by intro e; rw [e] at hnl; simp at hnl; omega)
      obtain ⟨w3, hrun, hG3, hbel3⟩ := copy_row (c := c3) (d := cs k) hG (i := k) (by omega) hI hl3 (Nat.le_succ _)
      obtain ⟨b6, o6, x, hA6, hbl6, hg6, hc6'⟩ := (hJ.bel (hb1.trans hbk)).at_ (k := k) (by rw [HLN.out]; exact hlt)
      obtain ⟨rfl, rfl⟩ : lb = b6 ∧ lof = o6 := by simpa using hA6
      have hb13 := hbel3 w1 hbk (Nat.le_refl _)
      have hx01 := H01.out x (List.mem_of_getElem? hg6)
      have hc6 : w3.cell? ⟨lb, lof + k, none⟩ = some (.int .i64 x) := by
        rw [(hb1.trans hbk).use.1 _ _ hlb] at hc6'
        rw [(hb1.trans hb13).use.1 _ _ hlb]
        exact hc6'
      have q0 := hG.cell (i := k) (by omega)
      have q1 := hG3.cell (i := k) (by omega)
      obtain ⟨m, hm, hrow⟩ := hG3.row k (by omega)
      have q2 := hrow.cells n3 (by omega)
      have q3 := hrow.fz n3
      have q4 := hG3.lo k (by omega)
      have HP := Lib.hid (hG3.put (i := k) (j := n3) (by omega) (by omega) (1 - x))
      have HCP := Lib.hid hrun
      have HX := Lib.hid (show l.getD k 0 = x by rw [List.getD_eq_getElem?_getD, hg6]; rfl)
      have HNS := Lib.hid (show ∀ j, ent T k j = ns.getD j 0 by unfold ent; rw [hg]; exact fun j => (List.getD_eq_getElem?_getD ..).symm)
      obtain ⟨b4, hb4⟩ : ∃ b4, b4 = bs k := ⟨_, rfl⟩
      rw [← hb4] at q0 q1 q2 q3 q4 HP hrow HCP
      have hb4l := hrow.lt
      have hg2l := (World.ownsRow.lt hG3.own g2 rfl).2
      have i1 : (k : Int) < (n3 : Int) + 1 := by omega
      have i2 : (0 : Int) ≤ (k : Int) := by omega
      have i3 : (n3 : Int) < (n3 : Int) + 1 := by omega
      have i4 : (k : Int) < (n3 : Int) := by omega
      clear hG hG3 hrow hb4 hA6 hg6 hg hrun hbel3 hc6' hI hnl hl3 hx3
      go_wp2_with (refine wpList_copy_eq (o := ⟨some 41, _, _, _, _, _⟩) rfl (.tmp 39) (.tmp 40) 26 26 rfl _ _ rfl rfl (HCP.out _) ?_)
      go_region
      go_wp2
      go_roundw
      case rel => exact ⟨k + 1, by omega, by go_num, (hb13.setCell q4 _).drew, _, HP.out.bel ((Bel.refl _).drew), fun a b ha hb h => by
        by_cases e : a = k ∧ b = n3
        · simp only [if_pos e]
          unfold adF
          rw [if_pos (by omega), if_neg (by omega), e.1, HX.out]
        · simp only [if_neg e]
          by_cases e2 : a = k ∧ b < n3
          · rw [if_pos e2]
            unfold adF
            rw [if_pos (by omega), if_pos e2.2, e2.1, HNS.out]
          · rw [if_neg e2]
            exact HF.out a b ha hb (by omega)⟩
      case measure => simp [intOf]; omega
    · obtain rfl : n = k := by omega
      obtain ⟨w3, hrun, hG3, hbel3⟩ := copy_row (c := d) (d := cs n) hG (i := n) (by omega) (hJ.bel (hb1.trans hbk)) HLN.out (Nat.le_succ _)
      have hb13 := hbel3 w1 hbk (Nat.le_refl _)
      have q0 := hG.cell (i := n) (by omega)
      have HCP := Lib.hid hrun
      have HG := Lib.hid (hG3.congr (ls' := fun _ => n + 1) (f' := fun a b => adF T l n a b) (fun _ _ => rfl) (fun a b ha hb => by
        by_cases e : a = n ∧ b < n
        · rw [if_pos e]
          unfold adF
          rw [if_neg (by omega), if_pos e.2]
        · rw [if_neg e]
          exact (HF.out a b ha hb (by omega)).symm))
      have hg2l := (World.ownsRow.lt hG.own g2 rfl).2
      have i3 : (n : Int) < (n : Int) + 1 := by omega
      clear hG hG3 hrun hbel3
      go_wp2_with (refine wpList_copy_eq (o := ⟨some 61, _, _, _, _, _⟩) rfl (.tmp 59) (.tmp 60) 26 26 rfl _ _ rfl rfl (HCP.out _) ?_)
      refine bodyPost_ret (v := .tuple #[.slice (some ⟨g2, 0, none⟩) (n + 1) c2, .int .i64 0]) (by simp [results, Try.results75, go_sem]) rfl ⟨.slice (some ⟨g2, 0, none⟩) (n + 1) c2, rfl, w1.heap.size, hs1, hb1.trans hb13, bs, cs, HG.out⟩
end Go.Proofs.Ytahkihifgafbnaa
