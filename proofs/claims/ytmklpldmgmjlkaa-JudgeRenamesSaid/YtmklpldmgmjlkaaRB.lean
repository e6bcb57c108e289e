/- Records: the document's Without and Same, walked. -/
import Derived.Test.YtmklpldmgmjlkaaRA
import Derived.Test.YtmklpldmgmjlkaaKK
namespace Go.Proofs.Ytmklpldmgmjlkaa
open Go.RowKit

theorem run_appA (W : World) (ty : TypeId) (b0 : Addr) (m cap : Nat) (p : Option Addr) (c : Nat) (hm : m ≤ cap) :
    (Builtin.append_ #[22, 22] ty #[.slice (some b0) m cap, .slice p 0 c]).run Try.prog W = .ok (.slice (some b0) m cap) W := by
  obtain ⟨i, hi, _⟩ := Option.map_eq_some_iff.1 info2A
  cases p <;> simp [Builtin.append_, run_underlying Try.underlying22, sizeOf, typeInfo, hi, Builtin.lenOf, Builtin.firstCells, loadCells, loadCellsFrom, storeCells, hm]
/-- An append of no answer, at a step of a region that draws. -/
theorem step_appA {ops : Array Oper} {o : Oper} {a : Act} {w : World} {K : Act → World → Prop} {Q : Exit → Act → World → Prop} {E : Prop} (hgd : o.guard = none) (s x : Operand)
    (ho : o.op = .call { callee := .builtin .append, args := #[s, x], argTypes := #[22, 22] }) (b0 : Addr) (m cap : Nat) (p : Option Addr) (c : Nat) (hm : m ≤ cap)
    (hs : a.eval s = .slice (some b0) m cap) (hx : a.eval x = .slice p 0 c) (h : K (a.put o.dst (.slice (some b0) m cap)) w) :
    if Region.wanted o (yielded ops a.tmps) = true then Oper.wp Try.prog o a w K Q else E := by
  have hw : Region.wanted o (yielded ops a.tmps) = true := by simp [Region.wanted, hgd]
  rw [if_pos hw]
  have hr := run_appA w o.type b0 m cap p c hm
  unfold Oper.wp execOp
  simp only [ho, resolve, invoke, builtin, Sem.run_bind, Sem.run_pure, Result.andThen_ok, List.map_toArray, List.map_cons, List.map_nil, hs, hx, hr]
  exact h
/-- What an own row of answers reads as, if its cells are those of others. -/
theorem OwnV.pick {base base' g m cap : Nat} {w2 w3 : World} {v : Value} {L M : List An} {vs xs : List Value} (h : OwnV base w2 v L vs) (hb : Bel w2 w3) (hown : w3.ownsRow base' 30 2 (.slice (some ⟨g, 0, none⟩) m cap) m xs)
    (hm : ∀ j, j < M.length → ∃ i, M[j]? = L[i]? ∧ xs[j * 2]? = vs[i * 2]? ∧ xs[j * 2 + 1]? = vs[i * 2 + 1]?) : Ans w3 (some ⟨g, 0, none⟩) M := by
  have hlt := (World.ownsRow.lt hown g rfl).2
  have hc := World.ownsRow.cells (g := g) hown rfl
  refine .inr ⟨g, 0, rfl, hlt, fun j ns y hj => ?_⟩
  obtain ⟨i, e1, e2, e3⟩ := hm j (List.getElem?_eq_some_iff.1 hj).1
  rw [hj] at e1
  obtain ⟨A', n', c', h1, h2, h3, h4, h5, -⟩ := h.els i ns y e1.symm
  have k1 := hc (j * 2) _ (e2.trans h1)
  have k2 := hc (j * 2 + 1) _ (e3.trans h2)
  rw [Go.Addr.add_mid] at k1 k2
  exact ⟨A', n', c', k1, k2, h3.bel hb, h4, h5⟩
theorem erase_at (L : List An) (k j : Nat) : (L.eraseIdx k)[j]? = L[if j < k then j else j + 1]? := by
  rw [List.getElem?_eraseIdx]
  split <;> rfl

set_option maxRecDepth 100000 in
set_option maxHeartbeats 1000000 in
theorem same_any (A B : Option Addr) (n c m d : Nat) (L : List An) (w : World) (hA : Ans w A L) (hB : Ans w B L) (hn : L.length = n) (hm : L.length = m) (hmax : n ≤ 100) :
    Calls Try.prog 13 #[.slice A n c, .slice B m d] w fun e w' => e = .returned (.bool true) ∧ Bel w w' := by
  obtain rfl : n = m := by omega
  have Hn := Lib.hid hn
  have hni : (n : Int) ≤ 100 := by omega
  clear hn hm
  go_enter Try.func13, Try.ntmps13
  go_wp2
  go_loopw [5] (fun i wr => ∃ k : Nat, k ≤ n ∧ i = .int .i64 k ∧ Bel w wr) (fun i _ => n - (intOf i).toNat)
  case atStart => exact ⟨0, Nat.zero_le _, rfl, Bel.refl _⟩
  case round =>
    obtain ⟨k, hk, rfl, hb⟩ := hrel
    by_cases hlt : k < n
    · have hkn : (k : Int) < (n : Int) := by omega
      obtain ⟨a1, a2, ns, y, A', n', c', rfl, hbl, hg, hc1, hc2, hI, hl', hm'⟩ := (hA.bel hb).at_ (k := k) (by rw [Hn.out]; exact hlt)
      obtain ⟨a3, a4, ns2, y2, A2, n2, c2, rfl, hbl2, hg2, hc3, hc4, hI2, hl2, hm2⟩ := (hB.bel hb).at_ (k := k) (by rw [Hn.out]; exact hlt)
      rw [hg] at hg2
      injection hg2 with hg2
      injection hg2 with e1 e2
      subst e1 e2
      have HL := Lib.hid hl'; have HL2 := Lib.hid hl2; have HM := Lib.hid hm'
      have Held := Lib.hid (fun w' (h : Bel wr w') => show (w'.cell? ⟨a1, a2 + k * 2, none⟩ = some (.slice A' n' c') ∧ w'.cell? ⟨a1, a2 + k * 2 + 1, none⟩ = some (.bool y)) ∧ w'.cell? ⟨a3, a4 + k * 2, none⟩ = some (.slice A2 n2 c2) ∧ w'.cell? ⟨a3, a4 + k * 2 + 1, none⟩ = some (.bool y) from
        ⟨⟨by rw [h.use.1 _ _ hbl]; exact hc1, by rw [h.use.1 _ _ hbl]; exact hc2⟩, by rw [h.use.1 _ _ hbl2]; exact hc3, by rw [h.use.1 _ _ hbl2]; exact hc4⟩)
      clear hg hl' hl2 hm' hm2
      go_wp2
      go_region_held3 (fun w' => Bel wr w' ∧ (w'.cell? ⟨a1, a2 + k * 2, none⟩ = some (.slice A' n' c') ∧ w'.cell? ⟨a1, a2 + k * 2 + 1, none⟩ = some (.bool y)) ∧ w'.cell? ⟨a3, a4 + k * 2, none⟩ = some (.slice A2 n2 c2) ∧ w'.cell? ⟨a3, a4 + k * 2 + 1, none⟩ = some (.bool y)) (exact ⟨by (repeat (first | exact Bel.refl _ | assumption | refine Bel.drew ?_ | refine Bel.drewN ?_ _ | refine Bel.alloc ?_ _ | refine Bel.setCell ?_ (by first | omega | (simp; done) | (simp; omega) | (simp at *; omega)) _ | refine Bel.trans ?_ (by assumption))), Held.out _ (by (repeat (first | exact Bel.refl _ | assumption | refine Bel.drew ?_ | refine Bel.drewN ?_ _ | refine Bel.alloc ?_ _ | refine Bel.setCell ?_ (by first | omega | (simp; done) | (simp; omega) | (simp at *; omega)) _ | refine Bel.trans ?_ (by assumption))))⟩)
        (first | (go_at_call 24; refine (sameInts_any A' A2 n' c' n2 c2 ns _ (hI.bel (by (repeat (first | exact Bel.refl _ | assumption | refine Bel.drew ?_ | refine Bel.drewN ?_ _ | refine Bel.alloc ?_ _ | refine Bel.setCell ?_ (by first | omega | (simp; done) | (simp; omega) | (simp at *; omega)) _ | refine Bel.trans ?_ (by assumption))))) (hI2.bel (by (repeat (first | exact Bel.refl _ | assumption | refine Bel.drew ?_ | refine Bel.drewN ?_ _ | refine Bel.alloc ?_ _ | refine Bel.setCell ?_ (by first | omega | (simp; done) | (simp; omega) | (simp at *; omega)) _ | refine Bel.trans ?_ (by assumption))))) HL.out HL2.out HM.out).mono ?_; rintro e w2 ⟨rfl, hb2⟩))
      all_goals
        go_wp2
        go_roundw
        case rel => exact ⟨k + 1, by omega, by go_num, by (repeat (first | exact Bel.refl _ | assumption | refine Bel.drew ?_ | refine Bel.drewN ?_ _ | refine Bel.alloc ?_ _ | refine Bel.setCell ?_ (by first | omega | (simp; done) | (simp; omega) | (simp at *; omega)) _ | refine Bel.trans ?_ (by assumption)))⟩
        case measure => simp [intOf]; omega
    · obtain rfl : k = n := by omega
      go_wp2
      go_ret
      exact ⟨rfl, hb⟩

end Go.Proofs.Ytmklpldmgmjlkaa

