/- Lots copied; the lots of a sieve. -/
import Derived.Test.YtmbhhooiaonhjaaBC
import Derived.Laws.IdiomCopy
namespace Go.Proofs.Ytmbhhooiaonhjaa
open Go.RowKit

section
variable {P : Program}
/-- 'copy' between slices of pairs of one length. -/
theorem run_copy2 (w : World) (dT sT ty elem : TypeId) (b n dCap sCap : Nat) (a : Addr) (cs : List Value)
    (hu : P.underlying dT = some (.slice elem)) (hs : (P.info? elem).map (·.size) = some 2) (hn : cs.length = n * 2)
    (hsrc : ∀ j v, cs[j]? = some v → w.cell? (a.add j) = some v) (hc : ∀ j, j < cs.length → (w.cell? ⟨b, 0 + j, none⟩).isSome = true) (hf : ∀ j, j < cs.length → w.frozen? ⟨b, 0 + j, none⟩ = false) (h1 : ∀ v ∈ cs, v.oneCell' = true) :
    (Builtin.copy_ #[dT, sT] ty #[.slice (some ⟨b, 0, none⟩) n dCap, .slice (some a) n sCap]).run P w = .ok (goInt n) (w.setCells b 0 cs) := by
  have hl := run_loadCells_list (P := P) w a cs hsrc
  have hst := run_storeCells_cells (P := P) b 0 cs 0 w (by simpa using hc) (by simpa using hf) h1
  cases hq : P.info? elem with
  | none => simp [hq] at hs
  | some i =>
    have hi : i.size = 2 := by simpa [hq] using hs
    simp [Builtin.copy_, run_underlying hu, Builtin.lenOf, Builtin.firstCells, sizeOf, typeInfo, hq, hi, ← hn, hl, hst]
/-- .. and nothing, where there is nothing. -/
theorem run_copy2_none (w : World) (dT sT ty elem : TypeId) (d a : Option Addr) (dCap sCap : Nat) (hu : P.underlying dT = some (.slice elem)) (hs : (P.info? elem).map (·.size) = some 2) :
    (Builtin.copy_ #[dT, sT] ty #[.slice d 0 dCap, .slice a 0 sCap]).run P w = .ok (goInt 0) w := by
  cases hq : P.info? elem with
  | none => simp [hq] at hs
  | some i =>
    have hl : ∀ (x : Addr), (loadCells x 0).run P w = .ok #[] w := fun x => by simpa using run_loadCells_list (P := P) w x [] (by simp)
    cases d <;> cases a <;> simp [Builtin.copy_, run_underlying hu, Builtin.lenOf, Builtin.firstCells, sizeOf, typeInfo, hq, storeCells, hl]
/-- A copy whose run is known. -/
theorem wpList_copy_eq {w w' : World} {ops : Array Oper} {rest : List Oper} {o : Oper} {a : Act} {Q : Exit → Act → World → Prop} (hgd : o.guard = none) (d s : Operand) (dT sT : TypeId)
    (ho : o.op = .call { callee := .builtin .copy, args := #[d, s], argTypes := #[dT, sT] }) (x y : Value) (hd : a.eval d = x) (hs : a.eval s = y) {z : Value}
    (hrun : (Builtin.copy_ #[dT, sT] o.type #[x, y]).run P w = .ok z w') (h : wpList P ops Q rest (a.put o.dst z) w') : wpList P ops Q (o :: rest) a w := by
  refine wpList_plain hgd fun K hK => ?_
  unfold Oper.wp
  simp [execOp, ho, resolve, invoke, builtin, hd, hs, hrun, Result.andThen]
  exact hK _ _ h
end
theorem infoG2 : (Try.prog.info? 52).map (·.size) = some 2 := by kernel_rfl
theorem flat2_cel (gs : List (Int × Int)) (i : Nat) (hi : i < gs.length * 2) : (cel2 gs)[i]? = some (.int .i64 (flat2 gs i)) := by
  obtain ⟨j, hj⟩ : ∃ j, j = i / 2 := ⟨_, rfl⟩
  have hl : j < gs.length := by omega
  obtain ⟨c1, c2⟩ := cel2_at gs j
  rw [List.getElem?_eq_getElem hl] at c1 c2
  rcases (by omega : i = j * 2 ∨ i = j * 2 + 1) with rfl | rfl
  · obtain ⟨e1, -⟩ := flat2_at (k := j) (by rw [List.getElem?_eq_getElem hl] : gs[j]? = some (gs[j].1, gs[j].2))
    rw [c1, e1]; rfl
  · obtain ⟨-, e2⟩ := flat2_at (k := j) (by rw [List.getElem?_eq_getElem hl] : gs[j]? = some (gs[j].1, gs[j].2))
    rw [c2, e2]; rfl
theorem Row.filled {w : World} {g n : Nat} {f : Nat → Int} (h : Row w g (n * 2) 0 f) {gs : List (Int × Int)} (hn : gs.length = n) : Row (w.setCells g 0 (cel2 gs)) g (n * 2) (n * 2) (flat2 gs) := by
  obtain ⟨h1, h2, _⟩ := setCells_heap g (cel2 gs) 0 w
  have hl := cel2_length gs
  have hr := World.rangeAt_setCells_same w g 0 (cel2 gs) (by
    intro j hj
    obtain ⟨v, hv⟩ := h.all j (by omega)
    rw [Nat.zero_add]
    exact ⟨by rw [hv]; rfl, h.fz j⟩)
  have hc : ∀ i, i < n * 2 → (w.setCells g 0 (cel2 gs)).cell? ⟨g, i, none⟩ = some (.int .i64 (flat2 gs i)) := fun i hi => by
    have := hr i _ (flat2_cel gs i (by omega))
    rwa [Nat.zero_add] at this
  exact ⟨by rw [h1]; exact h.lt, fun i => by rw [World.frozen?_setCells]; exact h.fz i, fun i hi => ⟨_, hc i hi⟩, hc⟩

set_option maxRecDepth 100000 in
set_option maxHeartbeats 400000 in
theorem copyLot_any (A : Option Addr) (n c : Nat) (gs : List (Int × Int)) (w : World) (hR : Prs w A gs) (hn : gs.length = n) (hmax : n ≤ 40) :
    Calls Try.prog 58 #[.slice A n c] w (MadeRow w n gs) := by
  obtain ⟨C, hC, hmk⟩ := make_any (P := Try.prog) 22 52 infoGrain Try.underlying22 n (by omega) (by omega)
  have HR := Row.new w C 52 (flat2 gs) hC
  clear hC
  obtain ⟨W', hcp, hb, hF⟩ : ∃ W', (∀ ty, (Builtin.copy_ #[22, 22] ty #[.slice (some ⟨w.heap.size, 0, none⟩) n n, .slice A n c]).run Try.prog (w.alloc (.cells C 52)) = .ok (goInt n) W') ∧ Bel w W' ∧ Row W' w.heap.size (n * 2) (n * 2) (flat2 gs) := by
    by_cases h0 : n = 0
    · subst h0
      exact ⟨_, fun ty => run_copy2_none (P := Try.prog) (w.alloc (.cells C 52)) 22 22 ty 52 (some ⟨w.heap.size, 0, none⟩) A 0 c Try.underlying22 infoG2, (Bel.refl _).alloc _, HR⟩
    · rcases A with _ | a
      · exact absurd (by rcases hR with rfl | ⟨b, o, hA, _⟩; exact hn.symm; cases hA) h0
      · have hcells := prs_cells (hR.bel ((Bel.refl w).alloc (.cells C 52)))
        have hl := cel2_length gs
        rw [hn] at hl
        exact ⟨_, fun ty => run_copy2 (P := Try.prog) (w.alloc (.cells C 52)) 22 22 ty 52 w.heap.size n n c a (cel2 gs) Try.underlying22 infoG2 hl hcells
          (fun j hj => by obtain ⟨v, hv⟩ := HR.all j (by omega); rw [Nat.zero_add, hv]; rfl) (fun j hj => by rw [Nat.zero_add]; exact HR.fz j) (cel2_one gs), ((Bel.refl _).alloc _).setCells (Nat.le_refl _) _ _, HR.filled hn⟩
  clear HR hR hn
  have Hcp := Lib.hid hcp
  clear hcp
  go_enter Try.func58, Try.ntmps58
  go_wp2_with (refine wpList_copy_eq (o := ⟨some 9, _, _, _, _, _⟩) rfl (.tmp 7) (.tmp 8) 22 22 rfl _ _ rfl rfl (Hcp.out _) ?_)
  go_ret
  exact ⟨_, rfl, Nat.le_refl _, hb, hF⟩
end Go.Proofs.Ytmbhhooiaonhjaa

