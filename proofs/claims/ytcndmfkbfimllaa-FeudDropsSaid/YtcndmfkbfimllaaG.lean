/- feud: has, foes, isPaint; the document's Feud. -/
import Derived.Test.YtcndmfkbfimllaaF
namespace Go.Proofs.Ytcndmfkbfimllaa
open Go.RowKit Go.Maps

def inG (G : List (Nat × Nat)) (f : Nat × Nat) : Bool := G.contains f
theorem zeroB (w : World) : (zeroValue 4).run Try.prog w = .ok (.bool false) w := by kernel_rfl
/-- What the map answers. -/
theorem wpList_feud (w : World) {ops : Array Oper} {rest : List Oper} {o : Oper} {a : Act} {Q : Exit → Act → World → Prop} (hg : o.guard = none) (m x : Operand) (hop : o.op = Op.lookup 68 m x false)
    (M : Nat) (G : List (Nat × Nat)) (hm : a.eval m = .map (some M)) (hown : FM w M G) (c d : Nat) (hx : a.eval x = .agg #[.int .i64 (c : Int), .int .i64 (d : Int)]) (h1 : c ≤ 1000) (h2 : d ≤ 1000)
    (hK : wpList Try.prog ops Q rest (a.put o.dst (.bool (inG G (c, d)))) w) : wpList Try.prog ops Q (o :: rest) a w := by
  refine wpList_plain hg fun K' hK' => ?_
  obtain ⟨v, ps, hrun, hv⟩ := hown.2.lookup feudKeyed Try.underlying68 (zeroB w) (bR_mk false) (keyOf_feud c d h1 h2)
  have he := at_keys hown.1 (c, d) ⟨h1, h2⟩
  unfold noD at he
  rw [he] at hv
  rw [show G.contains (c, d) = inG G (c, d) from rfl] at hv
  obtain rfl := bR_inv hv
  unfold Oper.wp
  simp [execOp, hop, hm, hx, hrun, Result.andThen]
  exact hK' _ _ hK
/-- Do two paints have a feud? -/
def hasG (G : List (Nat × Nat)) (a b : Nat) : Bool := inG G (min a b, max a b)
theorem box_shop {w w' : World} {p : Int} {M : Nat} {ty : TypeId} (h : Bel (w.alloc (.cells #[.int .i64 p, .map (some M)] ty)) w') : w'.cell? ⟨w.heap.size, 0, none⟩ = some (.int .i64 p) ∧ w'.cell? ⟨w.heap.size, 1, none⟩ = some (.map (some M)) := by
  refine ⟨?_, ?_⟩ <;> (rw [h.use.1 _ _ (by simp)]; go_simp)
set_option maxRecDepth 100000 in
set_option maxHeartbeats 400000 in
theorem shas_any (p : Int) (M : Nat) (G : List (Nat × Nat)) (a b : Nat) (w : World) (hF : FM w M G) (ha : a ≤ 1000) (hb : b ≤ 1000) :
    Calls Try.prog 105 #[.agg #[.int .i64 p, .map (some M)], .int .i64 (a : Int), .int .i64 (b : Int)] w fun e w' => e = .returned (.bool (hasG G a b)) ∧ Bel w w' := by
  rcases (by omega : a < b ∨ b < a ∨ a = b) with hab | hab | rfl
  · have hlt : (a : Int) < (b : Int) := by omega
    have HE := Lib.hid (show hasG G a b = inG G (a, b) by unfold hasG; rw [Nat.min_eq_left (by omega), Nat.max_eq_right (by omega)])
    clear hab
    go_enter Try.func105, Try.ntmps105
    go_wp2_with (at_lookup; go_loud (refine wpList_feud _ rfl _ _ rfl M G rfl (hF.bel (by (repeat (first | exact Bel.refl _ | assumption | refine Bel.drew ?_ | refine Bel.drewN ?_ _ | refine Bel.alloc ?_ _ | refine Bel.setCell ?_ (by first | omega | (simp; done) | (simp; omega) | (simp at *; omega)) _ | refine Bel.trans ?_ (by assumption))))) a b rfl ha hb ?_))
    go_ret
    exact ⟨ret_bool HE.out.symm, by (repeat (first | exact Bel.refl _ | assumption | refine Bel.drew ?_ | refine Bel.drewN ?_ _ | refine Bel.alloc ?_ _ | refine Bel.setCell ?_ (by first | omega | (simp; done) | (simp; omega) | (simp at *; omega)) _ | refine Bel.trans ?_ (by assumption)))⟩
  · have hlt : (b : Int) < (a : Int) := by omega
    have HE := Lib.hid (show hasG G a b = inG G (b, a) by unfold hasG; rw [Nat.min_eq_right (by omega), Nat.max_eq_left (by omega)])
    clear hab
    go_enter Try.func105, Try.ntmps105
    go_wp2_with (at_lookup; go_loud (refine wpList_feud _ rfl _ _ rfl M G rfl (hF.bel (by (repeat (first | exact Bel.refl _ | assumption | refine Bel.drew ?_ | refine Bel.drewN ?_ _ | refine Bel.alloc ?_ _ | refine Bel.setCell ?_ (by first | omega | (simp; done) | (simp; omega) | (simp at *; omega)) _ | refine Bel.trans ?_ (by assumption))))) b a rfl hb ha ?_))
    go_ret
    exact ⟨ret_bool HE.out.symm, by (repeat (first | exact Bel.refl _ | assumption | refine Bel.drew ?_ | refine Bel.drewN ?_ _ | refine Bel.alloc ?_ _ | refine Bel.setCell ?_ (by first | omega | (simp; done) | (simp; omega) | (simp at *; omega)) _ | refine Bel.trans ?_ (by assumption)))⟩
  · have HE := Lib.hid (show hasG G a a = inG G (a, a) by unfold hasG; rw [Nat.min_self, Nat.max_self])
    go_enter Try.func105, Try.ntmps105
    go_wp2_with (at_lookup; go_loud (refine wpList_feud _ rfl _ _ rfl M G rfl (hF.bel (by (repeat (first | exact Bel.refl _ | assumption | refine Bel.drew ?_ | refine Bel.drewN ?_ _ | refine Bel.alloc ?_ _ | refine Bel.setCell ?_ (by first | omega | (simp; done) | (simp; omega) | (simp at *; omega)) _ | refine Bel.trans ?_ (by assumption))))) a a rfl hb ha ?_))
    go_ret
    exact ⟨ret_bool HE.out.symm, by (repeat (first | exact Bel.refl _ | assumption | refine Bel.drew ?_ | refine Bel.drewN ?_ _ | refine Bel.alloc ?_ _ | refine Bel.setCell ?_ (by first | omega | (simp; done) | (simp; omega) | (simp at *; omega)) _ | refine Bel.trans ?_ (by assumption)))⟩
end Go.Proofs.Ytcndmfkbfimllaa
