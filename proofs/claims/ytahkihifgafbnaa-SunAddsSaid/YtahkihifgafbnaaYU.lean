/- Add of the document. -/
import Derived.Test.YtahkihifgafbnaaYT
namespace Go.Proofs.Ytahkihifgafbnaa
open Go.RowKit

/-- The copy whose first k rows are grown. -/
def AddAt (w0 : World) (g c n : Nat) (T : List (List Int)) (l : List Int) (w : World) (k : Nat) : Prop :=
  Bel w0 w ∧ ∃ bs cs f, Grid w0.heap.size w (.slice (some ⟨g, 0, none⟩) n c) n bs (fun i => if i < k then n + 1 else n) cs f ∧ RowsO w n bs cs ∧ (∀ a b, a < n → b < n → f a b = ent T a b) ∧ ∀ a, a < k → f a n = 1 - l.getD a 0
set_option maxRecDepth 100000 in
set_option maxHeartbeats 8000000 in
theorem radd_ok (lo : Nat) (A : Option Addr) (n c : Nat) (T : List (List Int)) (B : Option Addr) (d : Nat) (l : List Int) (w : World) (hR : Tab lo w A T) (hn : T.length = n) (hJ : Ints w B l) (hE : errT T = 0) (hB : rowB n l = true) (h6 : n ≤ 6) :
    Calls Try.prog 73 #[.slice A n c, .slice B n d] w fun e w' => ∃ v base, e = .returned (.tuple #[v, .int .i64 0]) ∧ w.heap.size ≤ base ∧ Bel w w' ∧ SqG base w' v (n + 1) (n + 1) (fun x y => adF T l n x y) := by
  obtain ⟨i0, hi, hz0, hz1, hz2⟩ := info_parts info1S
  obtain ⟨i1, hj, hy0, hy1, hy2⟩ := info_parts info1I
  obtain ⟨⟨h1, h7⟩, hrw, -⟩ := errT_zero hE
  rw [hn] at h1 h7 hrw
  have hsq := rowsB_square hn hrw
  obtain ⟨hl01, hlen⟩ : (∀ x ∈ l, x = 0 ∨ x = 1) ∧ l.length = n := by
    unfold rowB at hB
    rw [Bool.and_eq_true, List.all_eq_true] at hB
    exact ⟨fun x hx => by simpa using hB.1 x hx, by simpa using hB.2⟩
  obtain ⟨lb, lof, rfl, hlb, -⟩ := hJ.news (by intro e; rw [e] at hlen; simp at hlen; omega)
  have HE := Lib.hid hE; have Hn := Lib.hid hn; have HSQ := Lib.hid hsq; have HB := Lib.hid hB; have HLN := Lib.hid hlen; have H01 := Lib.hid hl01
  have hn7 : ((n : Int) == 7) = false := by simp; omega
  clear hE hn hrw hsq hB hlen hl01
  go_enter Try.func73, Try.ntmps73
  go_wp2_with fail
  refine (rvalidate_any lo A n c T _ hR Hn.out).mono ?_
  rintro e w1 ⟨rfl, hb1⟩
  rw [HE.out]
  have hs1 := hb1.size
  go_wp2
  go_loopw [7] (fun i wr => ∃ k : Nat, k ≤ n ∧ i = .int .i64 k ∧ w1 = wr) (fun i _ => n - (intOf i).toNat)
  case atStart => exact ⟨0, Nat.zero_le _, rfl, rfl⟩
  case round =>
    obtain ⟨k, hk, rfl, hwr⟩ := hrel
    subst hwr
    by_cases hlt : k < n
    · obtain ⟨b6, o6, x, hA6, hbl6, hg6, hc6⟩ := (hJ.bel hb1).at_ (k := k) (by rw [HLN.out]; exact hlt)
      obtain ⟨rfl, rfl⟩ : lb = b6 ∧ lof = o6 := by simpa using hA6
      have hx01 := H01.out x (List.mem_of_getElem? hg6)
      have HW := Lib.hid (decide_eq_true (show 0 ≤ x ∧ x ≤ 1 by omega))
      have ki1 : (k : Int) < (n : Int) := by omega
      have ki2 : (0 : Int) ≤ (k : Int) := by omega
      clear hA6 hg6
      go_wp2_with (first | (go_at_call 83; refine (within_any _ _ _ _).mono ?_; rintro e w3 ⟨rfl, rfl⟩; rw [HW.out]))
      go_roundw
      case rel => exact ⟨k + 1, by omega, by go_num, by first | rfl | trivial⟩
      case measure => simp [intOf]; omega
    · obtain rfl : n = k := by omega
      go_wp2_with fail
      refine (rCopyO_any A n c T _ ((hR.low (Nat.zero_le _)).bel hb1) Hn.out (by omega) (fun r hr => by have := HSQ.out.2 r hr; omega)).mono ?_
      rintro e w2 ⟨v2, rfl, hb12, bs, cs, hG2, hRO2⟩
      have hG := hG2.congr (ls' := fun i => if i < 0 then n + 1 else n) (f' := ent T) (fun i hi => by obtain ⟨r, q1, q2, -⟩ := HSQ.out.at_ hi hi; unfold lenT; rw [q1, if_neg (by omega)]; exact q2.symm) (fun _ _ _ _ => rfl)
      obtain ⟨g2, c2, rfl⟩ := hG.form (by omega)
      have HGG := Lib.hid hG; have HRR := Lib.hid hRO2
      clear hG hG2 hRO2
      go_wp2
      go_loopw [9] (fun i wr => ∃ k : Nat, k ≤ n ∧ i = .int .i64 k ∧ AddAt w1 g2 c2 n T l wr k) (fun i _ => n - (intOf i).toNat)
      case atStart => exact ⟨0, Nat.zero_le _, rfl, hb12, bs, cs, _, HGG.out, HRR.out, fun a b _ _ => rfl, fun a ha => by omega⟩
      case round =>
        clear HGG HRR
        obtain ⟨k, hk, rfl, hbk, bs, cs, f, hG, hRO, hf, hfn⟩ := hrel
        have HF := Lib.hid hf; have HFN := Lib.hid hfn
        clear hf hfn
        have hbs := hbk.size
        by_cases hlt2 : k < n
        · obtain ⟨b6, o6, x, hA6, hbl6, hg6, hc6⟩ := (hJ.bel (hb1.trans hbk)).at_ (k := k) (by rw [HLN.out]; exact hlt2)
          obtain ⟨rfl, rfl⟩ : lb = b6 ∧ lof = o6 := by simpa using hA6
          have hx01 := H01.out x (List.mem_of_getElem? hg6)
          have HX := Lib.hid (show l.getD k 0 = x by rw [List.getD_eq_getElem?_getD, hg6]; rfl)
          have HWR := Lib.hid (show IntKind.i64.wrap (1 - x) = 1 - x by rcases hx01 with rfl | rfl <;> decide)
          obtain ⟨ls, hls⟩ : ∃ ls : Nat → Nat, ls = fun i => if i < k then n + 1 else n := ⟨_, rfl⟩
          have hlk : ls k = n := by rw [hls]; simp
          rw [← hls] at hG
          have q1 := hG.cell (i := k) hlt2
          have hOW := row_own hG hRO (i := k) hlt2
          have Rg : Hid (∀ W w3 g3 cap3, Bel wr W → W.grownBy w3 (some (bs k)) → w3.ownsRow w1.heap.size 3 1 (.slice (some ⟨g3, 0, none⟩) (n + 1) cap3) (n + 1) (((List.range n).map fun j => .int .i64 (f k j)) ++ [.int .i64 (IntKind.i64.wrap (1 - x))]) → (bs k = g3 ∨ g3 = W.heap.size) →
              (∃ u, w3.cell? ⟨g2, k, none⟩ = some u) ∧ w3.frozen? ⟨g2, k, none⟩ = false ∧ g2 < w3.heap.size ∧ Bel w1 w3 ∧ AddAt w1 g2 c2 n T l (w3.setCell ⟨g2, k, none⟩ (.slice (some ⟨g3, 0, none⟩) (n + 1) cap3)) (k + 1)) := fun W w3 g3 cap3 hW hg hown hat => by
            have hq := hG.regrow (g3 := g3) (cap3 := cap3) (y := IntKind.i64.wrap (1 - x)) hRO hlt2 hW hg (by rw [hlk]; exact hown) hat
            rw [hlk] at hq
            obtain ⟨z1, z2, z3, z4, z5⟩ := hq
            have hB3 : Bel w1 w3 := Below.grown (hbk.trans hW) hg (hbk.trans hW).size (fun i hi => by injection hi with hi; rw [← hi]; exact hG.lo k hlt2)
            refine ⟨⟨_, z1⟩, z2, z3, hB3, hB3.setCell (World.ownsRow.lt hG.own g2 rfl).1 _, _, _, _, z4.congr (fun i hi => ?_) (fun _ _ _ _ => rfl), z5, fun a b ha hb => ?_, fun a ha => ?_⟩
            · rw [hls]
              show (if i < k + 1 then n + 1 else n) = if i = k then n + 1 else (if i < k then n + 1 else n)
              by_cases e : i = k
              · rw [if_pos e, if_pos (by omega)]
              · rw [if_neg e]
                by_cases e2 : i < k
                · rw [if_pos (by omega), if_pos e2]
                · rw [if_neg (by omega), if_neg e2]
            · rw [if_neg (by omega)]
              exact HF.out a b ha hb
            · by_cases e : a = k
              · rw [if_pos ⟨e, rfl⟩, e, HX.out, HWR.out]
              · rw [if_neg (fun h => e h.1)]
                exact HFN.out a (by omega)
          rw [hlk] at q1 hOW
          have HOW := Lib.hid hOW
          have q4 := hG.lo k hlt2
          have hg2l := (World.ownsRow.lt hG.own g2 rfl).2
          obtain ⟨b4, hb4⟩ : ∃ b4, b4 = bs k := ⟨_, rfl⟩
          rw [← hb4] at q1 q4 HOW Rg
          obtain ⟨c4, hc4⟩ : ∃ c4, c4 = cs k := ⟨_, rfl⟩
          rw [← hc4] at q1 HOW
          have ki1 : (k : Int) < (n : Int) := by omega
          have ki2 : (0 : Int) ≤ (k : Int) := by omega
          have hX1 := Lib.hid (show n + 1 ≤ maxLen by unfold maxLen; omega)
          have hX2 := Lib.hid (show (n + 1) * 8 ≤ 140737488355328 by omega)
          clear hG hRO hOW hls hlk hb4 hc4 hA6 hg6
          go_wp2
          go_region_law
            (first | (refine step_append_lies _ rfl (.tmp 48) (.tmp 54) 26 rfl w1.heap.size 3 i1 _ 1 8 Try.underlying26 hj hy0 hy1 hy2 rfl (by decide) _ n _ (by rfl) (ownsRow_bel HOW.out (by (repeat (first | exact Bel.refl _ | assumption | refine Bel.drew ?_ | refine Bel.drewN ?_ _ | refine Bel.alloc ?_ _ | refine Bel.setCell ?_ (by first | omega | (simp; done) | (simp; omega) | (simp at *; omega)) _ | refine Bel.trans ?_ (by assumption))))) ⟨wr.heap.size, 0, none⟩ 1 1 [.int .i64 (IntKind.i64.wrap (1 - x))] (by rfl) rfl (fun j u hj => new1 wr (IntKind.i64.wrap (1 - x)) 3 _ rfl j u hj) (one1 _) (by omega) hX1.out hX2.out (by simp; omega) _ rfl ?_; intro g3 cap3 w3 hown3 hgr3 hat3 hlt3; obtain ⟨⟨u, s1⟩, s2, s3, s4, s5⟩ := Rg.out _ w3 g3 cap3 (by (repeat (first | exact Bel.refl _ | assumption | refine Bel.drew ?_ | refine Bel.drewN ?_ _ | refine Bel.alloc ?_ _ | refine Bel.setCell ?_ (by first | omega | (simp; done) | (simp; omega) | (simp at *; omega)) _ | refine Bel.trans ?_ (by assumption)))) hgr3 hown3 (hat3.imp (fun e => by injection e) id)))
          all_goals
            have HS5 := Lib.hid s5
            clear hown3 hgr3 hat3 hlt3 s5
            go_wp2
            go_roundw
            case rel => exact ⟨k + 1, by omega, by go_num, HS5.out.1.trans (by (repeat (first | exact Bel.refl _ | assumption | refine Bel.drew ?_ | refine Bel.drewN ?_ _ | refine Bel.alloc ?_ _ | refine Bel.setCell ?_ (by first | omega | (simp; done) | (simp; omega) | (simp at *; omega)) _ | refine Bel.trans ?_ (by assumption)))), by obtain ⟨_, bs, cs, f, z1, z2, z3⟩ := HS5.out; exact ⟨bs, cs, f, z1.bel (by (repeat (first | exact Bel.refl _ | assumption | refine Bel.drew ?_ | refine Bel.drewN ?_ _ | refine Bel.alloc ?_ _ | refine Bel.setCell ?_ (by first | omega | (simp; done) | (simp; omega) | (simp at *; omega)) _ | refine Bel.trans ?_ (by assumption)))), z2.bel z1 (by (repeat (first | exact Bel.refl _ | assumption | refine Bel.drew ?_ | refine Bel.drewN ?_ _ | refine Bel.alloc ?_ _ | refine Bel.setCell ?_ (by first | omega | (simp; done) | (simp; omega) | (simp at *; omega)) _ | refine Bel.trans ?_ (by assumption)))), z3⟩⟩
            case measure => simp [intOf]; omega
        · obtain rfl : n = k := by omega
          have HG1 := Lib.hid (hG.congr (ls' := fun _ => n + 1) (f' := fun a b => adF T l n a b) (fun i hi => by show n + 1 = if i < n then n + 1 else n; rw [if_pos hi]) (fun a b ha hb => by
            have hb' : b < n + 1 := by simpa [ha] using hb
            unfold adF
            rw [if_pos ha]
            by_cases e : b < n
            · rw [if_pos e]
              exact (HF.out a b ha e).symm
            · rw [if_neg e]
              obtain rfl : b = n := by omega
              exact (HFN.out a ha).symm))
          have hlit : Hid ((wr.alloc (.cells #[] 3)).ownsRow wr.heap.size 3 1 (.slice (some ⟨wr.heap.size, 0, none⟩) 0 0) 0 []) := World.ownsRow_lit wr #[] 0 (Nat.le_refl _) (by unfold maxLen; omega) rfl
          have HLC : Hid (∀ w', Bel wr w' → ∀ j u, (l.map fun x => Value.int .i64 x)[j]? = some u → w'.cell? ((⟨lb, lof, none⟩ : Addr).add j) = some u) := fun w' hw => ints_cells (hJ.bel ((hb1.trans hbk).trans hw))
          have hX1 := Lib.hid (show n + 1 ≤ maxLen by unfold maxLen; omega)
          have hX2 := Lib.hid (show (n + 1) * 8 ≤ 140737488355328 by omega)
          have hX3 := Lib.hid (show 0 + n ≤ maxLen by unfold maxLen; omega)
          have hX4 := Lib.hid (show (0 + n) * 8 ≤ 140737488355328 by omega)
          have hX5 := Lib.hid (show (n + 1) * 24 ≤ 140737488355328 by omega)
          clear hG hRO
          go_wp2_with (at_builtin; first
            | (refine wpList_append_lies _ rfl (.tmp 58) (.tmp 59) 26 rfl wr.heap.size 3 i1 _ 1 8 Try.underlying26 hj hy0 hy1 hy2 rfl (by decide) _ 0 [] (by rfl) hlit.out ⟨lb, lof, none⟩ n d (l.map fun x => .int .i64 x) (by rfl) (by rw [List.length_map, HLN.out, Nat.mul_one]) (HLC.out _ (by (repeat (first | exact Bel.refl _ | assumption | refine Bel.drew ?_ | refine Bel.drewN ?_ _ | refine Bel.alloc ?_ _ | refine Bel.setCell ?_ (by first | omega | (simp; done) | (simp; omega) | (simp at *; omega)) _ | refine Bel.trans ?_ (by assumption))))) (one_map _) (by omega) hX3.out hX4.out (by simp) _ rfl ?_; intro g5 cap5 w5; rw [show 0 + n = n from Nat.zero_add n, List.nil_append]; intro hown5 hgr5 hat5 hlt5; have hb5 := grown_own (w := wr) ((Bel.refl wr).alloc _) hlit.out (Nat.le_refl _) hgr5; have HO5 := Lib.hid hown5; have hs5 := hb5.size; clear hown5 hgr5 hat5 hlt5)
            | (refine wpList_append_lies _ rfl (.tmp 60) (.tmp 61) 26 rfl wr.heap.size 3 i1 _ 1 8 Try.underlying26 hj hy0 hy1 hy2 rfl (by decide) _ n _ (by rfl) (HO5.out.alloc _) ⟨w5.heap.size, 0, none⟩ 1 1 [.int .i64 0] (by rfl) rfl (new1 w5 _ _ _ rfl) (one1 _) (by omega) hX1.out hX2.out (by simp; omega) _ rfl ?_; intro g6 cap6 w6 hown6 hgr6 hat6 hlt6; have hb6 := grown_own (w := wr) (hb5.alloc _) HO5.out (Nat.le_refl _) hgr6; have HO6 := Lib.hid hown6; have hs6 := hb6.size; clear hown6 hgr6 hat6 hlt6)
            | (refine wpList_append_lies _ rfl (.tmp 57) (.tmp 63) 22 rfl w1.heap.size 26 i0 _ 1 24 Try.underlying22 hi hz0 hz1 hz2 rfl (by decide) _ n _ (by rfl) ((HG1.out.bel hb6).bel ((Bel.refl w6).alloc _)).own ⟨w6.heap.size, 0, none⟩ 1 1 [.slice (some ⟨g6, 0, none⟩) (n + 1) cap6] (by rfl) rfl (newS _ _ _ _ rfl) (oneS _ _ _) (by omega) hX1.out hX5.out (by simp <;> omega) _ rfl ?_; intro g7 cap7 w7 hown7 hgr7 hat7 hlt7))
          have ho6 := HO6.out
          have e6 : ((l.map fun x => Value.int .i64 x) ++ [.int .i64 0]) = (l ++ [0]).map fun x => .int .i64 x := by simp
          rw [e6] at ho6
          obtain ⟨r1, r2, hR6⟩ := Row.of_own ho6
          have hG7 := ((HG1.out.bel hb6).bel ((Bel.refl w6).alloc (.cells #[.slice (some ⟨g6, 0, none⟩) (n + 1) cap6] 26))).snoc (g := g7) (cap := cap7) (b := g6) (c := cap6) (hR6.alloc _) r2 (by omega) (fun e => by have := (World.ownsRow.lt HG1.out.own _ e).2; omega) (fun i h e => by obtain ⟨_, _, h2⟩ := HG1.out.row i h; have := h2.lt; omega) hown7 hgr7 hat7
          have hB7 := grown_own (w := w1) ((hbk.trans hb6).alloc _) HG1.out.own (Nat.le_refl _) hgr7
          have HG7 := Lib.hid (hG7.congr (ls' := fun _ => n + 1) (f' := fun a b => adF T l n a b) (fun i hi => by by_cases e : i = n <;> simp [e]) (fun a b ha hb => by
            by_cases e : a = n
            · rw [if_pos e]
              have hb' : b < n + 1 := by simpa [e] using hb
              unfold adF
              rw [if_neg (by omega)]
              simp only [List.getD_eq_getElem?_getD]
              by_cases e2 : b < n
              · rw [if_pos e2, List.getElem?_append_left (by rw [HLN.out]; exact e2)]
              · rw [if_neg e2, List.getElem?_append_right (by rw [HLN.out]; omega), HLN.out, show b - n = 0 by omega]
                rfl
            · rw [if_neg e]))
          clear hown7 hgr7 hat7 hlt7 hG7
          go_wp2
          refine bodyPost_ret (v := .tuple #[.slice (some ⟨g7, 0, none⟩) (n + 1) cap7, .int .i64 0]) (by simp [results, Try.results73, go_sem]) rfl ?_
          first
            | exact ⟨_, w1.heap.size, rfl, hs1, hb1.trans hB7, _, _, HG7.out⟩
            | exact ⟨_, rfl, w1.heap.size, hs1, hb1.trans hB7, _, _, HG7.out⟩
end Go.Proofs.Ytahkihifgafbnaa
