/- feud: shelvings, walked. -/
import Derived.Test.YtcndmfkbfimllaaL
import Derived.Test.YtcndmfkbfimllaaH
import Derived.WalkMore
namespace Go.Proofs.Ytcndmfkbfimllaa
open Go.RowKit Go.Maps

def upT (T : List (List Nat)) : List (List Int) := T.map upN
theorem upT_length (T : List (List Nat)) : (upT T).length = T.length := by simp [upT]
theorem upT_at {lo : Nat} {w : World} {A : Option Addr} {T : List (List Nat)} (h : Tab lo w A (upT T)) {k : Nat} (hk : k < T.length) :
    ∃ b o l A' n' c', A = some ⟨b, o, none⟩ ∧ b < w.heap.size ∧ T[k]? = some l ∧ w.cell? ⟨b, o + k, none⟩ = some (.slice A' n' c') ∧ Ints w A' (upN l) ∧ l.length = n' ∧ n' ≤ maxLen := by
  obtain ⟨b, o, ns, A', n', c', hA, hb, hg, h1, h2, h3, h4⟩ := h.at_ (k := k) (by rw [upT_length]; exact hk)
  have e : T[k]? = some T[k] := by rw [List.getElem?_eq_getElem hk]
  unfold upT at hg
  rw [List.getElem?_map, e] at hg
  simp at hg
  subst hg
  exact ⟨b, o, _, A', n', c', hA, hb, e, h1, h2, by rw [← h3, upN_length], h4⟩
theorem upT_app (S T : List (List Nat)) : upT (S ++ T) = upT S ++ upT T := by simp [upT]
theorem upN_app (S T : List Nat) : upN (S ++ T) = upN S ++ upN T := by simp [upN]
/-- The first list: no paint stands on a shelf yet. -/
theorem tab_one (lo : Nat) (w : World) (ty : TypeId) (g : Nat) (hg : g = w.heap.size) (T : List (List Int)) (hT : T = [[]]) (hlo : lo ≤ w.heap.size) : Tab lo (w.alloc (.cells #[.slice none 0 0] ty)) (some ⟨g, 0, none⟩) T := by
  subst hg hT
  refine .inr ⟨_, 0, rfl, hlo, by simp, fun j ns hj => ?_⟩
  match j, hj with
  | 0, hj =>
    simp at hj
    subst hj
    exact ⟨none, 0, 0, by go_simp, .inl rfl, rfl, Nat.zero_le _, fun b o e => by cases e⟩
def lenV : Value → Nat
  | .slice _ n _ => n
  | _ => 0
/-- A table that the call made. -/
def Tabs (w : World) (T : List (List Nat)) (e : Ending) (w' : World) : Prop := ∃ A n c, e = .returned (.slice A n c) ∧ n = T.length ∧ Bel w w' ∧ Tab w.heap.size w' A (upT T)

set_option maxRecDepth 100000 in
set_option maxHeartbeats 4000000 in
theorem shelvings_any (p : Nat) (M : Nat) (G : List (Nat × Nat)) (w : World) (hF : FM w M G) (hp : p ≤ 7) :
    Calls Try.prog 94 #[.agg #[.int .i64 (p : Int), .map (some M)]] w (Tabs w (shelvL G p)) := by
  obtain ⟨i0, hi, hz0, hz1, hz2⟩ := info_parts info1S
  obtain ⟨i1, hj, hj0, hj1, hj2⟩ := info_parts info1I
  have hpi : (p : Int) ≤ 7 := by omega
  have Held := Lib.hid (fun w' (h : Bel (w.alloc (.cells #[.int .i64 (p : Int), .map (some M)] 70)) w') => box_shop h)
  go_enter Try.func94, Try.ntmps94
  go_wp2
  go_loopw [3, 14] (fun v i wr => ∃ (k : Nat) (A : Option Addr) (n c : Nat), k ≤ p ∧ i = .int .i64 k ∧ v = .slice A n c ∧ n = (shelvL G k).length ∧ Bel (w.alloc (.cells #[.int .i64 (p : Int), .map (some M)] 70)) wr ∧ Tab w.heap.size wr A (upT (shelvL G k))) (fun _ i _ => p - (intOf i).toNat)
  case atStart => exact ⟨0, _, _, _, Nat.zero_le _, rfl, rfl, rfl, by (repeat (first | exact Bel.refl _ | assumption | refine Bel.drew ?_ | refine Bel.drewN ?_ _ | refine Bel.alloc ?_ _ | refine Bel.setCell ?_ (by first | omega | (simp; done) | (simp; omega) | (simp at *; omega)) _ | refine Bel.trans ?_ (by assumption))), tab_one _ _ _ _ (by simp) _ rfl (by simp)⟩
  case round =>
    obtain ⟨k, A, n, c, hk, rfl, rfl, hn, hb, hT⟩ := hrel
    by_cases hlt : k < p
    · have hkp : (k : Int) < (p : Int) := by omega
      have hlen := shelvL_len G k
      have hfc := fct_mono k (by omega)
      have Hn := Lib.hid hn
      have hn5 : n ≤ 5040 := by omega
      obtain ⟨c0, c1⟩ := Held.out _ hb
      have hbw : Bel w wr := ((Bel.refl w).alloc _).trans hb
      have hbase : w.heap.size + 1 ≤ wr.heap.size := by have := hb.size; simp at this; omega
      clear hn hlen hfc
      go_wp2
      obtain ⟨wo, hwo⟩ : ∃ wo : World, wo = wr := ⟨_, rfl⟩
      subst hwo
      go_loopw [5, 19] (fun v i wr => ∃ i' : Nat, i' ≤ n ∧ i = .int .i64 i' ∧ Bel wo wr ∧ OwnT wo.heap.size wr v (upT (allTo G k (shelvL G k) i'))) (fun _ i _ => n - (intOf i).toNat)
      case atStart => exact ⟨0, Nat.zero_le _, rfl, Bel.refl _, OwnT.nil _ _⟩
      case round =>
        obtain ⟨i, hin, rfl, hb1, hO⟩ := hrel
        by_cases hlt1 : i < n
        · obtain ⟨b, o, l, A', n', c', rfl, hbl, hg, hc0, hI, hl', hm'⟩ := upT_at hT (k := i) (by rw [← Hn.out]; exact hlt1)
          have hc1 : wr.cell? ⟨b, o + i, none⟩ = some (.slice A' n' c') := by rw [hb1.use.1 _ _ hbl]; exact hc0
          have hbl2 : b < wr.heap.size := Nat.lt_of_lt_of_le hbl hb1.size
          have HC0 := Lib.hid hc0
          clear hc0
          obtain ⟨m1, m2⟩ := shelvL_mem G k l (List.mem_of_getElem? hg)
          have hn7 : n' = k := by omega
          have hn77 : n' ≤ 7 := by omega
          have HL := Lib.hid hl'
          have HM2 := Lib.hid m2
          have HG := Lib.hid (allTo_succ (G := G) (p := k) hg)
          have hlX := allTo_len (G := G) (k := k) (i := i) (by omega)
          have hui := useN_bd m2
          have HGm := Lib.hid (fun x (hx : x ∈ l) => (m2 x hx))
          have HN7 := Lib.hid hn7
          clear hg m1 m2 hl' hn7
          go_wp2
          go_step3
          go_wp2
          go_step3
          go_wp2_with fail
          refine (inUse_any A' n' c' l _ (hI.bel hb1) HL.out (by omega) (fun x hx => by have := HM2.out x hx; omega)).mono ?_
          rintro e w1 ⟨rfl, rfl⟩
          obtain ⟨u, hu⟩ : ∃ u, u = useN l := ⟨_, rfl⟩
          rw [← hu] at hui ⊢
          have HU := Lib.hid (show stepL G k l = stepTo G k l (u + 1) by rw [hu]; rfl)
          have huk : (u : Int) ≤ 7 := by omega
          clear hu
          have hO0 : OwnT wo.heap.size wr u5 (upT (allTo G k (shelvL G k) i ++ stepTo G k l 0)) := by
            have : stepTo G k l 0 = [] := rfl
            rw [this, List.append_nil]; exact hO
          obtain ⟨wa, hwa⟩ : ∃ wa : World, wa = wr := ⟨_, rfl⟩
          subst hwa
          clear hO
          go_wp2
          go_loopw [5, 26] (fun v j wr => ∃ s : Nat, s ≤ u + 1 ∧ j = .int .i64 s ∧ Bel wo wr ∧ OwnT wo.heap.size wr v (upT (allTo G k (shelvL G k) i ++ stepTo G k l s))) (fun _ j _ => u + 1 - (intOf j).toNat)
          case atStart => exact ⟨0, Nat.zero_le _, rfl, hb1, hO0⟩
          case round =>
            clear hO0
            obtain ⟨s, hs, rfl, hb2, hO⟩ := hrel
            by_cases hlt2 : s < u + 1
            · have hsu : (s : Int) < (u : Int) + 1 := by omega
              have HS := Lib.hid (stepTo_succ G k l s)
              have hlS := stepTo_len G k l s
              obtain ⟨wb, hwb⟩ : ∃ wb : World, wb = wr := ⟨_, rfl⟩
              subst hwb
              obtain ⟨X, hX⟩ : ∃ X, X = upT (allTo G k (shelvL G k) i ++ stepTo G k l s) := ⟨_, rfl⟩
              have hXl : X.length ≤ 8 * 5040 + 8 := by rw [hX, upT_length, List.length_append]; omega
              rw [← hX] at hO
              have HX := Lib.hid hX
              clear hX hlS hlX
              go_wp2
              go_loopw [31] (fun j wr => ∃ q : Nat, q ≤ n' ∧ j = .int .i64 q ∧ Bel wb wr ∧ (∀ r, r < q → l[r]? = some s → hasG G r k = false)) (fun j _ => n' - (intOf j).toNat)
              case atStart => exact ⟨0, Nat.zero_le _, rfl, Bel.refl _, fun r hr => by omega⟩
              case round =>
                obtain ⟨q, hq, rfl, hb4, hcl⟩ := hrel
                have HCL := Lib.hid hcl
                have hbw4 : Bel (w.alloc (.cells #[.int .i64 (p : Int), .map (some M)] 70)) wr := (hb.trans hb2).trans hb4
                obtain ⟨d0, d1⟩ := Held.out _ hbw4
                clear hcl
                by_cases hlt3 : q < n'
                · have hqn : (q : Int) < (n' : Int) := by omega
                  obtain ⟨b', o', x', rfl, hbl', hg', hc1'⟩ := (hI.bel (hb2.trans hb4)).at_ (k := q) (by rw [upN_length, HL.out]; exact hlt3)
                  obtain ⟨x, hx, rfl⟩ := upN_at hg'
                  have HXx := Lib.hid hx
                  clear hg' hx
                  by_cases hxs : x = s
                  · subst hxs
                    go_wp2_with fail
                    refine (shas_any p M G q k _ (hF.bel (by (repeat (first | exact Bel.refl _ | assumption | refine Bel.drew ?_ | refine Bel.drewN ?_ _ | refine Bel.alloc ?_ _ | refine Bel.setCell ?_ (by first | omega | (simp; done) | (simp; omega) | (simp at *; omega)) _ | refine Bel.trans ?_ (by assumption))))) (by omega) (by omega)).mono ?_
                    rintro e w5 ⟨rfl, hb5⟩
                    have hB5 : Bel wb w5 := hb4.trans hb5
                    cases hh : hasG G q k
                    · have HH := Lib.hid hh
                      clear hh
                      go_wp2
                      go_roundw
                      case rel => exact ⟨q + 1, by omega, by go_num, hB5, fun r hr hrs => by
                        rcases (by omega : r < q ∨ r = q) with h | rfl
                        · exact HCL.out r h hrs
                        · exact HH.out⟩
                      case measure => simp [intOf]; omega
                    · have HC := Lib.hid (clash_yes HXx.out hh)
                      have HQ := Lib.hid (show upT (allTo G k (shelvL G k) i ++ stepTo G k l (x + 1)) = X by rw [HS.out, HC.out, HX.out]; simp)
                      clear hh
                      go_wp2
                      go_roundw
                      case rel => exact ⟨x + 1, by omega, by go_num, hb2.trans hB5, by rw [HQ.out]; exact hO.bel hB5⟩
                      case measure => simp [intOf]; omega
                  · have hxi : ((x : Int) == (s : Int)) = false := by simpa using (fun e : (x : Int) = (s : Int) => hxs (by omega))
                    have hxn : (x == s) = false := by simpa using hxs
                    have HXS := Lib.hid hxs
                    clear hxs
                    go_wp2
                    go_roundw
                    case rel => exact ⟨q + 1, by omega, by go_num, hb4, fun r hr hrs => by
                      rcases (by omega : r < q ∨ r = q) with h | rfl
                      · exact HCL.out r h hrs
                      · rw [HXx.out] at hrs; exact absurd (Option.some.inj hrs) HXS.out⟩
                    case measure => simp [intOf]; omega
                · obtain rfl : q = n' := by omega
                  have HC := Lib.hid (clash_no (G := G) (p := k) (s := s) (l := l) (fun r hr hrs => HCL.out r (by rw [← HL.out]; exact hr) hrs))
                  have HQ := Lib.hid (show upT (allTo G k (shelvL G k) i ++ stepTo G k l (s + 1)) = X ++ [upN l ++ [(s : Int)]] by
                    rw [HS.out, HC.out, HX.out, ← List.append_assoc, upT_app]
                    simp [upT, upN])
                  obtain ⟨vs, hOV⟩ := hO
                  have hOV4 := Lib.hid (hOV.bel hb4)
                  have hX1 := Lib.hid (show (upN l).length + 1 ≤ maxLen by rw [upN_length]; unfold maxLen; have := HL.out; omega)
                  have hX2 := Lib.hid (show ((upN l).length + 1) * 8 ≤ 140737488355328 by rw [upN_length]; have := HL.out; omega)
                  have hX3 := Lib.hid (show X.length + 1 ≤ maxLen by unfold maxLen; omega)
                  have hX4 := Lib.hid (show (X.length + 1) * 24 ≤ 140737488355328 by omega)
                  have hwob : wo.heap.size ≤ wr.heap.size := (hb2.trans hb4).size
                  have hw0b : w.heap.size ≤ wo.heap.size := hbw.size
                  clear hOV hXl
                  go_wp2_with fail
                  refine (clone_any A' q c' (upN l) _ (hI.bel (hb2.trans hb4)) (by rw [upN_length]; exact HL.out) (by omega)).mono ?_
                  rintro e w5 ⟨v1, rfl, hO1, hb5⟩
                  have hB5 : Bel wb w5 := hb4.trans hb5
                  obtain ⟨Y, hY⟩ : ∃ Y, Y = upN l := ⟨_, rfl⟩
                  rw [← hY] at hO1 hX1 hX2
                  have HY := Lib.hid hY
                  have hYl : Y.length ≤ 7 := by rw [hY, upN_length]; have := HL.out; omega
                  have HO1 := Lib.hid (show w5.ownsRow wr.heap.size 3 1 v1 Y.length (Y.map fun x => .int .i64 x) from hO1)
                  have hs5 : wr.heap.size ≤ w5.heap.size := hb5.size
                  clear hY hO1
                  go_wp2_with (first
                    | (at_builtin; go_loud (refine wpList_append_lies _ rfl (.tmp 48) (.tmp 50) 25 rfl wr.heap.size 3 i1 _ 1 8 Try.underlying25 hj hj0 hj1 hj2 rfl (by decide) v1 Y.length (Y.map fun x => .int .i64 x) (by rfl) (HO1.out.alloc _) ⟨w5.heap.size, 0, none⟩ 1 1 [.int .i64 (s : Int)] (by rfl) rfl (new1 w5 _ _ _ rfl) (one1 _) (by omega) hX1.out hX2.out (Nat.le_trans hs5 (by simp)) _ rfl ?_); intro g3 cap3 w6 hown3 hgr3 hat3 hlt3; have hB6 := grown_own (w := wr) (hb5.alloc _) HO1.out (Nat.le_refl _) hgr3)
                    | (at_builtin; refine wpList_append_lies _ rfl (.tmp 46) (.tmp 52) 47 rfl wo.heap.size 25 i0 _ 1 24 Try.underlying47 hi hz0 hz1 hz2 rfl (by decide) u5 X.length vs (by rfl) ((hOV4.out.bel hB6).own.alloc _) ⟨w6.heap.size, 0, none⟩ 1 1 [.slice (some ⟨g3, 0, none⟩) (Y.length + 1) cap3] (by rfl) rfl (newS _ _ _ _ rfl) (oneS _ _ _) (by omega) hX3.out hX4.out (by have := hB6.size; simp; omega) _ rfl ?_; intro g4 cap4 w7 hown4 hgr4 hat4 hlt4)
                    | fail)
                  have hB7 : Bel wo w7 := grown_own (w := wo) ((hb2.trans (hb4.trans hB6)).alloc _) (hOV4.out.bel hB6).own (Nat.le_refl _) hgr4
                  obtain ⟨hg1, hg2⟩ := World.ownsRow.lt hown3 g3 rfl
                  have hI3 := ints_row (show w6.ownsRow wr.heap.size 3 1 (.slice (some ⟨g3, 0, none⟩) (Y.length + 1) cap3) (Y.length + 1) ((Y ++ [(s : Int)]).map fun x => .int .i64 x) by rw [List.map_append]; exact hown3)
                  have hO4 := OwnTV.snoc (g := g4) (A' := some ⟨g3, 0, none⟩) (n' := Y.length + 1) (c' := cap3) ((hOV4.out.bel hB6).bel ((Bel.refl w6).alloc _)) (hI3.bel ((Bel.refl w6).alloc _)) (by rw [List.length_append]; rfl) (by unfold maxLen; omega) (fun b o hA => by injection hA with hA; injection hA with e1 e2; subst e1; exact ⟨by simp; omega, (fun e => by have h1 := (World.ownsRow.lt hOV4.out.own _ e).2; omega), by omega⟩) hown4 hgr4 (by simpa using hat4)
                  have HO4 := Lib.hid hO4
                  clear hown3 hgr3 hat3 hlt3 hown4 hgr4 hat4 hlt4 hI3 hO4
                  go_roundw
                  case rel => exact ⟨s + 1, by omega, by go_num, hB7, by rw [HQ.out, ← HY.out]; exact HO4.out⟩
                  case measure => simp [intOf]; omega
            · obtain rfl : s = u + 1 := by omega
              have HQ := Lib.hid (show allTo G k (shelvL G k) (i + 1) = allTo G k (shelvL G k) i ++ stepTo G k l (u + 1) by rw [HG.out, HU.out])
              go_wp2
              rw [Exit.noGoto_normal]
              go_wp2
              go_roundw
              case rel => exact ⟨i + 1, by omega, by go_num, hb2, by rw [HQ.out]; exact hO⟩
              case measure => simp [intOf]; omega
        · obtain rfl : i = n := by omega
          obtain ⟨A9, n9, c9, rfl, hn9, hT9⟩ := hO.form
          rw [Hn.out, shelvL_end] at hn9 hT9
          rw [upT_length] at hn9
          have HN9 := Lib.hid hn9
          clear hn9 hO
          go_wp2
          go_roundw
          case rel => exact ⟨k + 1, A9, n9, c9, by omega, by go_num, rfl, HN9.out, hb.trans hb1, hT9.low hbw.size⟩
          case measure => simp [intOf]; omega
    · obtain rfl : k = p := by omega
      have Hn := Lib.hid hn
      clear hn
      go_wp2
      go_ret
      exact ⟨A, n, c, rfl, Hn.out, ((Bel.refl w).alloc _).trans hb, hT⟩
end Go.Proofs.Ytcndmfkbfimllaa
