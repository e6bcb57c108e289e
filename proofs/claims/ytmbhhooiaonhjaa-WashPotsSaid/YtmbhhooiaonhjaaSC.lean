/- Slices of integers that read as lists, that a call makes, that are kept. -/
import Derived.Test.YtmbhhooiaonhjaaSA
import Derived.Test.YtmbhhooiaonhjaaO
namespace Go.Proofs.Ytmbhhooiaonhjaa
open Go.RowKit
/-- The slice at A reads as the integers ns. -/
def Ints (w : World) (A : Option Addr) (ns : List Int) : Prop :=
  ns = [] ∨ ∃ b o, A = some ⟨b, o, none⟩ ∧ b < w.heap.size ∧ ∀ (j : Nat) (v : Int), ns[j]? = some v → w.cell? ⟨b, o + j, none⟩ = some (.int .i64 v)
theorem Ints.bel {w w' : World} {A : Option Addr} {ns : List Int} (h : Ints w A ns) (hb : Bel w w') : Ints w' A ns := by
  rcases h with h | ⟨b, o, rfl, hl, hc⟩
  · exact .inl h
  · refine .inr ⟨b, o, rfl, Nat.lt_of_lt_of_le hl hb.use.2.2, fun j v hj => ?_⟩
    rw [hb.use.1 _ _ hl]
    exact hc j v hj
theorem Ints.at_ {w : World} {A : Option Addr} {ns : List Int} (h : Ints w A ns) {k : Nat} (hk : k < ns.length) :
    ∃ b o v, A = some ⟨b, o, none⟩ ∧ b < w.heap.size ∧ ns[k]? = some v ∧ w.cell? ⟨b, o + k, none⟩ = some (.int .i64 v) := by
  rcases h with rfl | ⟨b, o, rfl, hl, hc⟩
  · simp at hk
  · have hg' : ns[k]? = some ns[k] := by rw [List.getElem?_eq_getElem hk]
    exact ⟨b, o, _, rfl, hl, hg', hc k _ hg'⟩
theorem Ints.none_nil {w : World} {ns : List Int} (h : Ints w none ns) : ns = [] := by
  rcases h with h | ⟨b, o, h, _⟩
  · exact h
  · cases h
theorem Row.put {w : World} {g m i : Nat} {f : Nat → Int} (h : Row w g m m f) (hi : i < m) (x : Int) : Row (w.setCell ⟨g, i, none⟩ (.int .i64 x)) g m m (fun j => if j = i then x else f j) := by
  obtain ⟨v, hv⟩ := h.all i hi
  refine ⟨by simpa [World.setCell] using h.lt, fun j => by rw [World.frozen?_setCell]; exact h.fz j, fun j hj => ?_, fun j hj => ?_⟩
  · by_cases e : j = i
    · subst e
      exact ⟨_, World.cell?_setCell_same _ _ _ hv⟩
    · rw [World.cell?_setCell_other _ _ _ _ (by simp <;> omega)]
      exact h.all j hj
  · by_cases e : j = i
    · subst e
      rw [if_pos rfl]
      exact World.cell?_setCell_same _ _ _ hv
    · rw [World.cell?_setCell_other _ _ _ _ (by simp <;> omega), if_neg e]
      exact h.cells j hj
theorem made_int (g i : Nat) (h : i < g) : (madeCells #[.int .i64 0] g)[i]? = some (.int .i64 0) := by simp [madeCells, h, Nat.mod_one]
theorem Row.ints {w : World} {b m : Nat} {f : Nat → Int} (h : Row w b m m f) : Ints w (some ⟨b, 0, none⟩) ((List.range m).map f) := by
  refine .inr ⟨b, 0, rfl, h.lt, fun j v hj => ?_⟩
  simp only [List.getElem?_map, Option.map_eq_some_iff] at hj
  obtain ⟨i, hi, rfl⟩ := hj
  obtain ⟨hl, e⟩ := List.getElem?_eq_some_iff.1 hi
  simp at hl e
  subst e
  rw [Nat.zero_add]
  exact h.cells j hl
/-- The slice v is the call's own, from block 'base' on, and holds the integers l. -/
def Own1 (e base : Nat) (w : World) (v : Value) (l : List Int) : Prop := w.ownsRow base e 1 v l.length (l.map fun x => .int .i64 x)
section
variable {e base : Nat} {w w' : World} {v : Value} {l : List Int}
theorem Own1.nil (e base : Nat) (w : World) : Own1 e base w (.slice none 0 0) [] := World.ownsRow_nil _ _ _ _
theorem Own1.alloc (h : Own1 e base w v l) (o : Obj) : Own1 e base (w.alloc o) v l := World.ownsRow.alloc h o
theorem Own1.bel (h : Own1 e base w v l) (hb : Bel w w') : Own1 e base w' v l :=
  World.ownsRow.kept (row := none) h ⟨hb.os, hb.tape, hb.output, hb.size, fun k hk _ => hb.block k hk⟩ (by
    cases hv : v.ownBlock with
    | none => exact .inl rfl
    | some k => exact .inr (by simp))
theorem Own1.snoc {a : Int} (h : w'.ownsRow base e 1 v (l.length + 1) ((l.map fun x => .int .i64 x) ++ [.int .i64 a])) : Own1 e base w' v (l ++ [a]) := by
  unfold Own1
  have e1 : (l ++ [a]).length = l.length + 1 := by simp
  have e2 : (l ++ [a]).map (fun x => Value.int .i64 x) = (l.map fun x => .int .i64 x) ++ [.int .i64 a] := by simp
  rw [e1, e2]
  exact h
theorem Own1.form (h : Own1 e base w v l) : ∃ A n c, v = .slice A n c ∧ n = l.length ∧ Ints w A l := by
  rcases h.2 with ⟨rfl, h0⟩ | ⟨g, cap, cur, rfl, hb, hg, hn, hm, hs, ht⟩
  · exact ⟨none, 0, 0, rfl, by omega, .inl (List.eq_nil_of_length_eq_zero h0)⟩
  · have hlt := (World.ownsRow.lt h g rfl).2
    have hc := World.ownsRow.cells (g := g) h rfl
    refine ⟨_, _, _, rfl, rfl, .inr ⟨g, 0, rfl, hlt, fun j v hj => ?_⟩⟩
    have := hc j (.int .i64 v) (by rw [List.getElem?_map, hj]; rfl)
    rw [Go.Addr.add_mid] at this
    exact this
end
theorem new1 (w : World) (a : Int) (ty : TypeId) (g : Nat) (hg : g = w.heap.size) : ∀ j u, [Value.int .i64 a][j]? = some u → (w.alloc (.cells #[.int .i64 a] ty)).cell? ((⟨g, 0, none⟩ : Addr).add j) = some u := by
  subst hg
  intro j u hj
  rw [Go.Addr.add_mid]
  match j, hj with
  | 0, hj => simpa using hj
theorem one1 (a : Int) : ∀ u ∈ [Value.int .i64 a], u.oneCell' = true := by
  intro u hu
  simp at hu
  rw [hu]
  rfl
theorem info1I : (Try.prog.info? 3).map (fun i => (i.zero, i.size, i.bytes)) = some (some (.int .i64 0), 1, 8) := by kernel_rfl
/-- A new slice of integers. -/
def News (w : World) (l : List Int) (e : Ending) (w' : World) : Prop := ∃ A n c, e = .returned (.slice A n c) ∧ n = l.length ∧ Bel w w' ∧ Ints w' A l
theorem Ints.take {w : World} {A : Option Addr} {zs : List Int} (h : Ints w A zs) (n : Nat) : Ints w A (zs.take n) := by
  rcases h with rfl | ⟨b, o, rfl, hl, hc⟩
  · exact .inl (by simp)
  · refine .inr ⟨b, o, rfl, hl, fun j v hj => hc j v ?_⟩
    rw [List.getElem?_take] at hj
    split at hj
    · exact hj
    · cases hj
theorem ints_cells {w : World} {a : Addr} {l : List Int} (h : Ints w (some a) l) : ∀ j u, (l.map fun x => Value.int .i64 x)[j]? = some u → w.cell? (a.add j) = some u := by
  intro j u hj
  rcases h with rfl | ⟨b, o, hA, _, hc⟩
  · simp at hj
  · injection hA with hA
    subst hA
    rw [Go.Addr.add_mid]
    simp only [List.getElem?_map, Option.map_eq_some_iff] at hj
    obtain ⟨x, hx, rfl⟩ := hj
    exact hc j x hx
theorem ints_one (l : List Int) : ∀ u ∈ l.map fun x => Value.int .i64 x, u.oneCell' = true := by
  intro u hu
  obtain ⟨x, _, rfl⟩ := List.mem_map.1 hu
  rfl
/-- All cells of a slice of integers, in new memory. -/
def Kept1 (w : World) (zs : List Int) (e : Ending) (w' : World) : Prop :=
  ∃ A n c, e = .returned (.slice A n c) ∧ n = zs.length ∧ Bel w w' ∧ Ints w' A zs ∧ ∀ b o, A = some ⟨b, o, none⟩ → w.heap.size ≤ b ∧ b < w'.heap.size
set_option maxHeartbeats 400000 in
theorem keepInts_any (A : Option Addr) (n c : Nat) (zs : List Int) (w : World) (hR : Ints w A zs) (hc : zs.length = c) (hn : n ≤ c) (h0 : A = none → c = 0) (hmax : c * 8 ≤ 140737488351232) :
    Calls Try.prog 7 #[.slice A n c] w (Kept1 w zs) := by
  obtain ⟨i0, hi, hz0, hz1, hz2⟩ := info_parts info1I
  rcases A with _ | a
  · have hc0 := h0 rfl
    subst hc0
    obtain rfl : n = 0 := by omega
    go_enter Try.func7, Try.ntmps7
    go_wp2
    go_ret
    exact ⟨_, _, _, rfl, hc.symm, by (repeat (first | exact Bel.refl _ | assumption | refine Bel.drew ?_ | refine Bel.drewN ?_ _ | refine Bel.alloc ?_ _ | refine Bel.setCell ?_ (by first | omega | (simp; done) | (simp; omega) | (simp at *; omega)) _ | refine Bel.trans ?_ (by assumption))), .inl (List.eq_nil_of_length_eq_zero hc), fun b o hb => by cases hb <;> exact ⟨Nat.le_refl _, by simp⟩⟩
  · have hcells := ints_cells (hR.bel ((Bel.refl w).alloc (.cells #[] 3)))
    have Hc := Lib.hid hcells; clear hcells
    have hlen : (zs.map fun x => Value.int .i64 x).length = c * 1 := by simp [hc]
    have Hl := Lib.hid hlen; clear hlen
    have HC := Lib.hid hc; clear hc
    have h63 : 0 + c ≤ maxLen := by unfold maxLen; omega
    have hby : (0 + c) * 8 ≤ 140737488355328 := by omega
    have H63 := Lib.hid h63; clear h63
    have Hby := Lib.hid hby; clear hby
    have hcl : (c : Int) ≤ 9223372036854775807 := by omega
    clear hmax
    go_enter Try.func7, Try.ntmps7
    go_wp2_with (at_builtin; go_loud (refine wpList_append_own _ rfl _ _ 23 rfl w.heap.size 3 i0 _ 1 8 Try.underlying23 hi hz0 hz1 hz2 rfl (by decide) _ 0 [] rfl (World.ownsRow_lit w #[] 0 (Nat.le_refl _) (by decide) rfl) a c c (zs.map fun x => .int .i64 x) rfl Hl.out Hc.out (ints_one zs) H63.out Hby.out (by simp) ?_); intro v' w' hown hgr _)
    go_ret
    have hb : Bel w w' := Below.grown ((Bel.refl w).alloc _) hgr (by simp) (fun i hi => by have h : some w.heap.size = some i := hi; injection h with h; omega)
    simp only [Nat.zero_add, List.nil_append] at hown
    rw [← HC.out] at hown
    have hO : Own1 3 w.heap.size w' v' zs := hown
    obtain ⟨A', n', c', rfl, hn', hI⟩ := hO.form
    refine ⟨A', n', c', rfl, hn', hb, hI, fun b o hA => ?_⟩
    subst hA
    exact World.ownsRow.lt hO b rfl
set_option maxHeartbeats 400000 in
theorem keptInts_any (A B : Option Addr) (n c n' c' : Nat) (zs : List Int) (w : World) (hA : Ints w A zs) (hB : Ints w B zs) (hc : zs.length = n) (hc' : zs.length = c') (_hn : n' ≤ c') (h0 : B = none → c' = 0) (hmax : c' ≤ 140737488351232) :
    Calls Try.prog 10 #[.slice A n c, .slice B n' c'] w fun e w' => e = .returned (.bool true) ∧ Bel w w' := by
  obtain rfl : n = c' := by omega
  have Hn := Lib.hid hc; clear hc hc'
  have h63 : (n : Int) ≤ 9223372036854775807 := by omega
  clear hmax
  rcases B with _ | ⟨b1, b2, b3⟩
  · have hn0 := h0 rfl
    subst hn0
    obtain rfl : n' = 0 := by omega
    go_enter Try.func10, Try.ntmps10
    go_wp2
    go_loopw [5] (fun i wr => i = .int .i64 0 ∧ Bel w wr) (fun _ _ => 0)
    case atStart => exact ⟨rfl, Bel.refl _⟩
    case round =>
      obtain ⟨rfl, hb⟩ := hrel
      go_wp2
      go_ret
      exact ⟨rfl, hb⟩
  · clear h0
    go_enter Try.func10, Try.ntmps10
    go_wp2
    go_loopw [5] (fun i wr => ∃ k : Nat, k ≤ n ∧ i = .int .i64 k ∧ Bel w wr) (fun i _ => n - (intOf i).toNat)
    case atStart => exact ⟨0, Nat.zero_le _, rfl, Bel.refl _⟩
    case round =>
      obtain ⟨k, hk, rfl, hb⟩ := hrel
      by_cases hlt : k < n
      · obtain ⟨b, o, s, rfl, hbl, hg, hc1⟩ := (hA.bel hb).at_ (k := k) (by rw [Hn.out]; exact hlt)
        obtain ⟨b', o', s', hB', hbl', hg', hc1'⟩ := (hB.bel hb).at_ (k := k) (by rw [Hn.out]; exact hlt)
        rw [hg] at hg'
        injection hg' with hg'
        subst hg'
        injection hB' with hB'
        injection hB' with e1 e2 e3
        subst e1 e2 e3
        have hkn : (k : Int) < (n : Int) := by omega
        have hk0 : (0 : Int) ≤ (k : Int) := by omega
        clear hg
        go_wp2
        go_quiet (fail)
        go_wp2
        go_roundw
        case rel => exact ⟨k + 1, by omega, by go_num, by (repeat (first | exact Bel.refl _ | assumption | refine Bel.drew ?_ | refine Bel.drewN ?_ _ | refine Bel.alloc ?_ _ | refine Bel.setCell ?_ (by first | omega | (simp; done) | (simp; omega) | (simp at *; omega)) _ | refine Bel.trans ?_ (by assumption)))⟩
        case measure => simp [intOf]; omega
      · obtain rfl : k = n := by omega
        go_wp2
        go_ret
        exact ⟨rfl, hb⟩
theorem run_app0I (W : World) (ty : TypeId) (b0 : Addr) (p : Option Addr) (c : Nat) :
    (Builtin.append_ #[23, 23] ty #[.slice (some b0) 0 0, .slice p 0 c]).run Try.prog W = .ok (.slice (some b0) 0 0) W := by
  obtain ⟨i, hi, _⟩ := Option.map_eq_some_iff.1 info1I
  cases p <;> simp [Builtin.append_, run_underlying Try.underlying23, sizeOf, typeInfo, hi, Builtin.lenOf, Builtin.firstCells, loadCells, loadCellsFrom, storeCells]
/-- An append of no integer, at a step of a region that draws. -/
theorem step_app0I {ops : Array Oper} {o : Oper} {a : Act} {w : World} {K : Act → World → Prop} {Q : Exit → Act → World → Prop} {E : Prop} (hgd : o.guard = none) (s x : Operand)
    (ho : o.op = .call { callee := .builtin .append, args := #[s, x], argTypes := #[23, 23] }) (b0 : Addr) (p : Option Addr) (c : Nat)
    (hs : a.eval s = .slice (some b0) 0 0) (hx : a.eval x = .slice p 0 c) (h : K (a.put o.dst (.slice (some b0) 0 0)) w) :
    if Region.wanted o (yielded ops a.tmps) = true then Oper.wp Try.prog o a w K Q else E := by
  have hw : Region.wanted o (yielded ops a.tmps) = true := by simp [Region.wanted, hgd]
  rw [if_pos hw]
  have hr := run_app0I w o.type b0 p c
  unfold Oper.wp execOp
  simp only [ho, resolve, invoke, builtin, Sem.run_bind, Sem.run_pure, Result.andThen_ok, List.map_toArray, List.map_cons, List.map_nil, hs, hx, hr]
  exact h
theorem Ints.news {w : World} {A : Option Addr} {ns : List Int} (h : Ints w A ns) (hne : ns ≠ []) : ∃ b o, A = some ⟨b, o, none⟩ ∧ b < w.heap.size ∧ ∀ j u, (ns.map fun x => Value.int .i64 x)[j]? = some u → w.cell? ((⟨b, o, none⟩ : Addr).add j) = some u := by
  rcases h with h | ⟨b, o, rfl, hl, hc⟩
  · exact absurd h hne
  · refine ⟨b, o, rfl, hl, fun j u hj => ?_⟩
    simp only [List.getElem?_map, Option.map_eq_some_iff] at hj
    obtain ⟨v, hv, rfl⟩ := hj
    rw [Go.Addr.add_mid]
    exact hc j v hv
theorem one_map (ns : List Int) : ∀ u ∈ ns.map (fun x => Value.int .i64 x), u.oneCell' = true := by
  intro u hu
  obtain ⟨v, _, rfl⟩ := List.mem_map.1 hu
  rfl
/-- A row of integers in memory, as it is read. -/
theorem ints_row {w : World} {base e g n cap : Nat} {ns : List Int} (h : w.ownsRow base e 1 (.slice (some ⟨g, 0, none⟩) n cap) n (ns.map fun x => .int .i64 x)) : Ints w (some ⟨g, 0, none⟩) ns := by
  have hlt := (World.ownsRow.lt h g rfl).2
  have hc := World.ownsRow.cells (g := g) h rfl
  refine .inr ⟨g, 0, rfl, hlt, fun j v hj => ?_⟩
  have := hc j (.int .i64 v) (by rw [List.getElem?_map, hj]; rfl)
  rw [Go.Addr.add_mid] at this
  exact this
end Go.Proofs.Ytmbhhooiaonhjaa
