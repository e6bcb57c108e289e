/- The search for the order with the fewest upsets: one step. -/
import Derived.Test.YtahkihifgafbnaaO
namespace Go.Proofs.Ytahkihifgafbnaa
open Go.RowKit

attribute [local go_sem] Oper.semAt_some

/-- A region whose operations may come in any order, in a round: as outside of one. -/
theorem upon_round {l n : Nat} {P : Program} {o : Oper} {a : Act} {K K' : Act → World → Prop} {Q : Exit → Act → World → Prop} {r : Result Next} (hK : ∀ a w, K a w → K' a w)
    (h : o.upon P a K Q r) : o.uponIn (Fence.wide.inRound l) n P a K' Q r := by
  cases r with
  | ok x w' =>
    cases x with
    | row row args =>
      refine ⟨fun h => by simp [Fence.wide] at h, fun c cs _ => ?_⟩
      obtain ⟨v, w'', hr, st⟩ := h c cs
      exact ⟨v, w'', hK _ _ hr, stepsIn_wide.2 st⟩
    | enter f args =>
      refine ⟨fun h => by simp [Fence.wide] at h, CallsIn.inRound l (callsIn_wide.2 (Calls.mono h fun e w'' he => ?_))⟩
      cases e <;> first | exact hK _ _ he | exact he
    | round l2 f t g b => exact h.elim
    | value v => exact hK _ _ h
    | skip => exact hK _ _ h
    | defer d => exact hK _ _ h
    | _ => exact h
  | halt x w' => cases x <;> exact h
theorem anyIn_round {l n : Nat} {P : Program} {md : Region.Mode} {ops : Array Oper} {Q : Exit → Act → World → Prop} (hQ : ¬ LetsOut Q) (hd : ∀ (i : Nat) (o : Oper), ops[i]? = some o → ∀ c, o.op ≠ .defer c) : ∀ (fuel : Nat) (listed : Array Bool) (a : Act) (w : World), wpAny P md ops Q fuel listed a w → wpAnyIn (Fence.wide.inRound l) n P md ops Q fuel listed a w
  | 0, _, _, _, h => h
  | fuel + 1, listed, a, w, h => ⟨h.1, fun i hi => by
      have h2 := h.2 i hi
      unfold wpOp at h2
      unfold wpOpIn
      cases ho : ops[i]? with
      | none =>
        rw [ho] at h2
        exact anyIn_round hQ hd fuel _ _ _ h2
      | some o =>
        rw [ho] at h2
        dsimp only at h2 ⊢
        split at h2
        · rename_i hw
          rw [if_pos hw]
          rcases h2 with h2 | ⟨-, h2⟩
          · refine ⟨fun _ _ => trivial, ?_⟩
            rw [Oper.semAt_eq _ _ _ (hd i o ho)]
            exact upon_round (fun a' w' h' => anyIn_round hQ hd fuel _ a' w' h') h2
          · exact absurd h2 hQ
        · rename_i hw
          rw [if_neg hw]
          exact ⟨fun _ _ => trivial, anyIn_round hQ hd fuel _ _ _ h2⟩⟩

/-- The cells that a round of the search reads. -/
def HeldS (A : Option Addr) (n c F B Tb Pb : Nat) (E : Option Addr) (q z ups g : Nat) (w' : World) : Prop :=
  w'.cell? ⟨Pb, 0, none⟩ = some (.func (.func 115) #[] #[.pointer (some ⟨F, 0, none⟩), .pointer (some ⟨Tb, 0, none⟩), .pointer (some ⟨B, 0, none⟩), .pointer (some ⟨Pb, 0, none⟩)]) ∧ w'.cell? ⟨g, 0, none⟩ = some (.slice E q z) ∧ w'.cell? ⟨g + 1, 0, none⟩ = some (.int .i64 (ups : Int)) ∧ w'.cell? ⟨Tb, 0, none⟩ = some (.slice A n c)
theorem HeldS.bel {A : Option Addr} {n c F B Tb Pb : Nat} {E : Option Addr} {q z ups g : Nat} {w w' : World} (h : HeldS A n c F B Tb Pb E q z ups g w) (hb : Bel w w') : HeldS A n c F B Tb Pb E q z ups g w' := by
  obtain ⟨h1, h2, h3, h4⟩ := h
  exact ⟨(hb.use.1 _ _ (block_lt_of_cell h1)).trans h1, (hb.use.1 _ _ (block_lt_of_cell h2)).trans h2, (hb.use.1 _ _ (block_lt_of_cell h3)).trans h3, (hb.use.1 _ _ (block_lt_of_cell h4)).trans h4⟩
theorem HeldS.two {A : Option Addr} {n c F B Tb Pb : Nat} {E : Option Addr} {q z ups g : Nat} {w w' : World} (h : HeldS A n c F B Tb Pb E q z ups g w) (hb : Two F B w w') (n2 : Tb ≠ F) (n3 : Tb ≠ B) (n4 : Pb ≠ F) (n5 : Pb ≠ B) (n6 : g ≠ F) (n7 : g ≠ B) (n8 : g + 1 ≠ F) (n9 : g + 1 ≠ B) : HeldS A n c F B Tb Pb E q z ups g w' := by
  obtain ⟨h1, h2, h3, h4⟩ := h
  have st : ∀ k, k < w.heap.size → k ≠ F → k ≠ B → w'.cell? ⟨k, 0, none⟩ = w.cell? ⟨k, 0, none⟩ := fun k h a b => World.cell?_of_block (w := w) (a := ⟨k, 0, none⟩) (hb.block k h a b)
  exact ⟨(st _ (block_lt_of_cell h1) n4 n5).trans h1, (st _ (block_lt_of_cell h2) n6 n7).trans h2, (st _ (block_lt_of_cell h3) n8 n9).trans h3, (st _ (block_lt_of_cell h4) n2 n3).trans h4⟩
theorem own1_S {e base g n cap F B : Nat} {w : World} {l : List Int} (h : Own1 e base w (.slice (some ⟨g, 0, none⟩) n cap) l) (hF : F < base) (hB : B < base) : IntsS (fun x => x < w.heap.size ∧ x ≠ F ∧ x ≠ B) w (some ⟨g, 0, none⟩) l := by
  have hlt := World.ownsRow.lt h g rfl
  have hc := World.ownsRow.cells (g := g) h rfl
  refine .inr ⟨g, 0, rfl, ⟨hlt.2, by omega, by omega⟩, fun j v hj => ?_⟩
  have := hc j (.int .i64 v) (by rw [List.getElem?_map, hj]; rfl)
  rw [Go.Addr.add_mid] at this
  exact this

theorem BestAt.own {F B : Nat} {w w' : World} {st : List Int × Nat} {row : Option Nat} (h : BestAt F B w st) (hg : w.grownBy w' row) (hr : ∀ r, row = some r → ∃ o : Obj, w.heap[r]? = some o ∧ o.isCells = false) : BestAt F B w' st := by
  obtain ⟨hF, zF, zB, E, q, c, hB, hq, hI⟩ := h
  refine ⟨cell_kept hF hg hr, (frozen_kept hF hg hr).trans zF, (frozen_kept hB hg hr).trans zB, E, q, c, cell_kept hB hg hr, hq, ?_⟩
  rcases hI with h | ⟨b, o, hA, hb, hc⟩
  · exact .inl h
  · exact .inr ⟨b, o, hA, ⟨Nat.lt_of_lt_of_le hb.1 hg.size, hb.2⟩, fun j v hj => cell_kept (hc j v hj) hg hr⟩

theorem own_best {β : Type} {N F B : Nat} (f : β → List Int × Nat) : OwnFrom N (fun s W => BestAt F B W (f s)) := fun _ _ _ _ hs hg hr => BestAt.own hs hg (fun r e => (hr r e).2)

/-- What a call of the search asks of the world, and what it leaves. -/
def PlaceOK (A : Option Addr) (n c F B Tb Pb : Nat) (T : List (List Int)) (d : Nat) : Prop := ∀ (order : List Int) (ups : Nat) (st : List Int × Nat) (E : Option Addr) (q z : Nat) (w : World),
    order.length + d = n → order.length = q → (∀ x ∈ order, 0 ≤ x ∧ x < n) → ups ≤ 7 * order.length → BestAt F B w st → w.cell? ⟨Tb, 0, none⟩ = some (.slice A n c) →
    w.cell? ⟨Pb, 0, none⟩ = some (.func (.func 115) #[] #[.pointer (some ⟨F, 0, none⟩), .pointer (some ⟨Tb, 0, none⟩), .pointer (some ⟨B, 0, none⟩), .pointer (some ⟨Pb, 0, none⟩)]) →
    TabN (fun x => x < w.heap.size ∧ x ≠ F ∧ x ≠ B) w A T → IntsS (fun x => x < w.heap.size ∧ x ≠ F ∧ x ≠ B) w E order →
    Calls Try.prog 115 #[.slice E q z, .int .i64 (ups : Int), .pointer (some ⟨F, 0, none⟩), .pointer (some ⟨Tb, 0, none⟩), .pointer (some ⟨B, 0, none⟩), .pointer (some ⟨Pb, 0, none⟩)] w fun e w' =>
      (∃ v, e = .returned v) ∧ Two F B w w' ∧ BestAt F B w' (placeS T n d order ups st)

set_option maxRecDepth 100000 in
set_option maxHeartbeats 4000000 in
theorem place_step (A : Option Addr) (n c F B Tb Pb : Nat) (T : List (List Int)) (hs : Square T n) (hn7 : n ≤ 7) (hne : F ≠ B ∧ Tb ≠ F ∧ Tb ≠ B ∧ Pb ≠ F ∧ Pb ≠ B) (d : Nat) (ih : PlaceOK A n c F B Tb Pb T d)
    (order : List Int) (ups : Nat) (st : List Int × Nat) (E : Option Addr) (q z : Nat) (w : World)
    (hd : order.length + (d + 1) = n) (hq : order.length = q) (hns : ∀ x ∈ order, 0 ≤ x ∧ x < n) (hup : ups ≤ 7 * order.length) (hBA : BestAt F B w st) (hTb : w.cell? ⟨Tb, 0, none⟩ = some (.slice A n c))
    (hPb : w.cell? ⟨Pb, 0, none⟩ = some (.func (.func 115) #[] #[.pointer (some ⟨F, 0, none⟩), .pointer (some ⟨Tb, 0, none⟩), .pointer (some ⟨B, 0, none⟩), .pointer (some ⟨Pb, 0, none⟩)]))
    (hT : TabN (fun x => x < w.heap.size ∧ x ≠ F ∧ x ≠ B) w A T) (hI : IntsS (fun x => x < w.heap.size ∧ x ≠ F ∧ x ≠ B) w E order) (hle : ¬ st.2 ≤ ups) :
    Calls Try.prog 115 #[.slice E q z, .int .i64 (ups : Int), .pointer (some ⟨F, 0, none⟩), .pointer (some ⟨Tb, 0, none⟩), .pointer (some ⟨B, 0, none⟩), .pointer (some ⟨Pb, 0, none⟩)] w fun e w' =>
      (∃ v, e = .returned v) ∧ Two F B w w' ∧ BestAt F B w' (placeS T n (d + 1) order ups st) := by
  obtain ⟨hF, zF, zB, E0, q0, c0, hB, hq0, hI0⟩ := id hBA
  obtain ⟨n1, n2, n3, n4, n5⟩ := hne
  have hlF := block_lt_of_cell hF; have hlB := block_lt_of_cell hB; have hlT := block_lt_of_cell hTb; have hlP := block_lt_of_cell hPb
  have hB1 : Bel w ((w.alloc (.cells #[.slice E q z] 26)).alloc (.cells #[.int .i64 (ups : Int)] 3)) := by (repeat (first | exact Bel.refl _ | assumption | refine Bel.drew ?_ | refine Bel.drewN ?_ _ | refine Bel.alloc ?_ _ | refine Bel.setCell ?_ (by first | omega | (simp; done) | (simp; omega) | (simp at *; omega)) _ | refine Bel.trans ?_ (by assumption)))
  have cF := (hB1.use.1 F 0 hlF).trans hF
  have cT := (hB1.use.1 Tb 0 hlT).trans hTb
  have hlei : ¬ (st.2 : Int) ≤ (ups : Int) := by omega
  have hqn : ¬ (q : Int) = (n : Int) := by omega
  have HSQ := Lib.hid hs; have Hq := Lib.hid hq; have HD := Lib.hid hd
  have hq6 : q ≤ 6 := by omega
  obtain ⟨i0, hi, hz0, hz1, hz2⟩ := info_parts info1I
  clear hs hq hd
  refine (callsIn_wide (n := 9)).1 ?_
  refine callsIn_of_wp_marks Try.func115 rfl trivial ?_ rfl
  simp only [Try.ntmps115, List.size_toArray, List.length_cons, List.length_nil, Nat.reduceAdd, Nat.reduceSub, Array.replicate_succ, Array.replicate_zero, List.push_toArray, List.append_toArray, List.nil_append, List.cons_append]
  gi_wp2_with (first | (refine ⟨trivial, ?_⟩; gi_at_call 114; refine (callsIn_wide.2 (others_in _ _ _ _ _ _ _)).mono ?_; rintro e w' ⟨rfl, rfl⟩) | fail)
  have hB0 : Bel w ((((w.alloc (.cells #[.slice E q z] 26)).alloc (.cells #[.int .i64 (ups : Int)] 3)).alloc (.cells #[.slice A n c] 61)).alloc (.cells #[.slice E q z] 26)) := by (repeat (first | exact Bel.refl _ | assumption | refine Bel.drew ?_ | refine Bel.drewN ?_ _ | refine Bel.alloc ?_ _ | refine Bel.setCell ?_ (by first | omega | (simp; done) | (simp; omega) | (simp at *; omega)) _ | refine Bel.trans ?_ (by assumption)))
  have hsz0 : ((((w.alloc (.cells #[.slice E q z] 26)).alloc (.cells #[.int .i64 (ups : Int)] 3)).alloc (.cells #[.slice A n c] 61)).alloc (.cells #[.slice E q z] 26)).heap.size = w.heap.size + 4 := by simp
  have c6 : ((((w.alloc (.cells #[.slice E q z] 26)).alloc (.cells #[.int .i64 (ups : Int)] 3)).alloc (.cells #[.slice A n c] 61)).alloc (.cells #[.slice E q z] 26)).cell? ⟨w.heap.size, 0, none⟩ = some (.slice E q z) := by go_simp
  have c7 : ((((w.alloc (.cells #[.slice E q z] 26)).alloc (.cells #[.int .i64 (ups : Int)] 3)).alloc (.cells #[.slice A n c] 61)).alloc (.cells #[.slice E q z] 26)).cell? ⟨w.heap.size + 1, 0, none⟩ = some (.int .i64 (ups : Int)) := by go_simp
  have cBt : ((((w.alloc (.cells #[.slice E q z] 26)).alloc (.cells #[.int .i64 (ups : Int)] 3)).alloc (.cells #[.slice A n c] 61)).alloc (.cells #[.slice E q z] 26)).cell? ⟨w.heap.size + 1 + 1, 0, none⟩ = some (.slice A n c) := by go_simp
  have cBs : ((((w.alloc (.cells #[.slice E q z] 26)).alloc (.cells #[.int .i64 (ups : Int)] 3)).alloc (.cells #[.slice A n c] 61)).alloc (.cells #[.slice E q z] 26)).cell? ⟨w.heap.size + 1 + 1 + 1, 0, none⟩ = some (.slice E q z) := by go_simp
  obtain ⟨W0, hW0⟩ : ∃ W0, ((((w.alloc (.cells #[.slice E q z] 26)).alloc (.cells #[.int .i64 (ups : Int)] 3)).alloc (.cells #[.slice A n c] 61)).alloc (.cells #[.slice E q z] 26)) = W0 := ⟨_, rfl⟩
  rw [hW0] at hB0 hsz0 c6 c7 cBt cBs ⊢
  clear hW0 cF cT hB1
  have cT := (hB0.use.1 Tb 0 hlT).trans hTb
  have cP := (hB0.use.1 Pb 0 hlP).trans hPb
  have hTW : TabN (fun x => x < W0.heap.size ∧ x ≠ F ∧ x ≠ B) W0 A T := (hT.kept (fun x hx => hB0.block x hx.1)).mono (fun x hx => ⟨by have := hx.1; omega, hx.2⟩)
  have hIW : IntsS (fun x => x < W0.heap.size ∧ x ≠ F ∧ x ≠ B) W0 E order := (hI.kept (fun x hx => hB0.block x hx.1)).mono (fun x hx => ⟨by have := hx.1; omega, hx.2⟩)
  have hBA0 := hBA.bel hB0
  obtain ⟨N, hN⟩ : ∃ N, N = W0.heap.size := ⟨_, rfl⟩
  refine wpIn_rangeFunc_ownF rfl (by omega) (gf := 124) (lb := #[.pointer (some ⟨w.heap.size + 1 + 1, 0, none⟩), .pointer (some ⟨w.heap.size + 1 + 1 + 1, 0, none⟩)]) rfl trivial (enters_of Try.func124 (by kernel_rfl) rfl)
    (others_stops 7 (w.heap.size + 1 + 1) (w.heap.size + 1 + 1 + 1) (fun x => x < W0.heap.size ∧ x ≠ F ∧ x ≠ B) A n c E q z order W0 (by omega) Hq.out (by unfold maxLen; omega) ⟨by omega, by omega, by omega⟩ ⟨by omega, by omega, by omega⟩ (fun x h => h.1) cBt cBs hIW)
    (fun h k => h.trans k) (Kept.put (fun x h => h.1)) (Below.refl _ _) (fun _ => rfl)
    (fun pre W => BestAt F B W (pre.foldl (fun st x => placeS T n d (order ++ [((x : Fin n).val : Int)]) (ups + beatN T x.val order) st) st) ∧ Two F B W0 W)
    (fun _ _ _ => False)
    (OwnFrom.and (own_best (fun (pre : List (Fin n)) => pre.foldl (fun st x => placeS T n d (order ++ [((x : Fin n).val : Int)]) (ups + beatN T x.val order) st) st)) (own_two (Nat.le_refl _)))
    (fun _ _ _ _ _ hs _ _ => hs)
    ⟨hBA0, Two.refl _ _ _⟩
    (fun x => { tmps := #[.slice E q z, .int .i64 (ups : Int), .pointer (some ⟨F, 0, none⟩), .pointer (some ⟨Tb, 0, none⟩), .pointer (some ⟨B, 0, none⟩), .pointer (some ⟨Pb, 0, none⟩), .pointer (some ⟨w.heap.size, 0, none⟩), .pointer (some ⟨w.heap.size + 1, 0, none⟩), .int .i64 (x.val : Int), .int .i64 (ups : Int), .int .i64 (st.2 : Int), .bool false, .slice E q z, .int .i64 (q : Int), .slice A n c, .int .i64 (n : Int), .bool false, undef, undef, .slice A n c, .slice E q z, .func (.func 124) #[] #[.pointer (some ⟨w.heap.size + 1 + 1, 0, none⟩), .pointer (some ⟨w.heap.size + 1 + 1 + 1, 0, none⟩)], .int .i64 (x.val : Int), undef, undef, undef, undef, undef, undef, undef, undef, undef, undef, undef, undef, undef], defers := [] }) ?assign ?body ?done ?stop
  case assign =>
    intro l x W K hK
    gi_wp2
    simpa using hK
  case body =>
    rintro l pre x W ⟨hBW, h2⟩ hlen
    have hgs := h2.size
    have d5 : W.cell? ⟨Pb, 0, none⟩ = some (.func (.func 115) #[] #[.pointer (some ⟨F, 0, none⟩), .pointer (some ⟨Tb, 0, none⟩), .pointer (some ⟨B, 0, none⟩), .pointer (some ⟨Pb, 0, none⟩)]) := by rw [World.cell?_of_block (w := W0) (a := ⟨Pb, 0, none⟩) (h2.block Pb (by omega) n4 n5)]; exact cP
    have d3 : W.cell? ⟨Tb, 0, none⟩ = some (.slice A n c) := by rw [World.cell?_of_block (w := W0) (a := ⟨Tb, 0, none⟩) (h2.block Tb (by omega) n2 n3)]; exact cT
    have d6 : W.cell? ⟨w.heap.size, 0, none⟩ = some (.slice E q z) := by rw [World.cell?_of_block (w := W0) (a := ⟨w.heap.size, 0, none⟩) (h2.block w.heap.size (by omega) (by omega) (by omega))]; exact c6
    have d7 : W.cell? ⟨w.heap.size + 1, 0, none⟩ = some (.int .i64 (ups : Int)) := by rw [World.cell?_of_block (w := W0) (a := ⟨w.heap.size + 1, 0, none⟩) (h2.block (w.heap.size + 1) (by omega) (by omega) (by omega))]; exact c7
    have hT1 := hTW.kept (w' := W) (fun y hy => h2.block y hy.1 hy.2.1 hy.2.2)
    have hI1 := hIW.kept (w' := W) (fun y hy => h2.block y hy.1 hy.2.1 hy.2.2)
    have hX1 := Lib.hid (show order.length + 1 ≤ maxLen by have := Hq.out; unfold maxLen; omega)
    have hX2 := Lib.hid (show (order.length + 1) * 8 ≤ 140737488355328 by have := Hq.out; omega)
    gi_wp2
    refine wpIn_region_any (by kernel_rfl) (anyIn_round ?_ ?_ _ _ _ _ ?_)
    · rintro ⟨a', w', h⟩
      exact h
    · intro i o ho cc
      have hm := Array.mem_of_getElem? ho
      simp only [List.mem_toArray, List.mem_cons, List.not_mem_nil, or_false] at hm
      rcases hm with rfl | rfl | rfl | rfl | rfl | rfl | rfl | rfl | rfl | rfl | rfl | rfl | rfl <;> (intro h; cases h)
    · refine wpAny_of_held (S := HeldS A n c F B Tb Pb E q z ups w.heap.size) _ _ _ _ ?_
      change wpAnyH _ _ _ _ _ _ _ _ (World.drew _)
      have hS : HeldS A n c F B Tb Pb E q z ups w.heap.size (World.drew W) := ⟨d5, d6, d7, d3⟩
      have hBd : Bel W (World.drew W) := (Bel.refl W).drew
      have hId : Ints (World.drew W) E order := (hI1.ints).bel hBd
      obtain ⟨W1, hW1⟩ : ∃ W1, World.drew W = W1 := ⟨_, rfl⟩
      rw [hW1] at hS hBd hId ⊢
      clear hW1
      have hs1 : W.heap.size ≤ W1.heap.size := hBd.size
      have newB : Hid (∀ {w2 : World}, Bel (W1.alloc (.cells #[.int .i64 (x.val : Int)] 3)) w2 → ∀ j u, [Value.int .i64 (x.val : Int)][j]? = some u → w2.cell? ((⟨W1.heap.size, 0, none⟩ : Addr).add j) = some u) := fun {w2} hb j u hj => by
        have h0 := new1 W1 (x.val : Int) 3 W1.heap.size rfl j u hj
        rw [Go.Addr.add_mid] at h0 ⊢
        exact (hb.use.1 W1.heap.size (0 + j) (by simp)).trans h0
      refine wpAnyH_take (i := 0) (oi := ⟨some 23, _, _, _, _, _⟩) (v := .func (.func 115) #[] #[.pointer (some ⟨F, 0, none⟩), .pointer (some ⟨Tb, 0, none⟩), .pointer (some ⟨B, 0, none⟩), .pointer (some ⟨Pb, 0, none⟩)]) rfl (by kernel_rfl) (by kernel_rfl) (by kernel_rfl) (fun _ _ _ h => h) (Or.inl ⟨by rfl, fun w hS => by obtain ⟨s1, s2, s3, s4⟩ := hS; go_simp⟩) hS ?_
      simp only [Act.put]
      refine wpAnyH_take (i := 1) (oi := ⟨some 24, _, _, _, _, _⟩) (v := .slice E q z) rfl (by kernel_rfl) (by kernel_rfl) (by kernel_rfl) (fun _ _ _ h => h) (Or.inl ⟨by rfl, fun w hS => by obtain ⟨s1, s2, s3, s4⟩ := hS; go_simp⟩) hS ?_
      simp only [Act.put]
      refine wpAnyH_take (i := 3) (oi := ⟨some 26, _, _, _, _, _⟩) (v := .int .i64 (x.val : Int)) rfl (by kernel_rfl) (by kernel_rfl) (by kernel_rfl) (fun _ _ _ h => h) (Or.inl ⟨by rfl, fun w hS => by obtain ⟨s1, s2, s3, s4⟩ := hS; go_simp⟩) hS ?_
      simp only [Act.put]
      refine wpAnyH_take (i := 6) (oi := ⟨some 29, _, _, _, _, _⟩) (v := .int .i64 (ups : Int)) rfl (by kernel_rfl) (by kernel_rfl) (by kernel_rfl) (fun _ _ _ h => h) (Or.inl ⟨by rfl, fun w hS => by obtain ⟨s1, s2, s3, s4⟩ := hS; go_simp⟩) hS ?_
      simp only [Act.put]
      refine wpAnyH_take (i := 7) (oi := ⟨some 30, _, _, _, _, _⟩) (v := .slice A n c) rfl (by kernel_rfl) (by kernel_rfl) (by kernel_rfl) (fun _ _ _ h => h) (Or.inl ⟨by rfl, fun w hS => by obtain ⟨s1, s2, s3, s4⟩ := hS; go_simp⟩) hS ?_
      simp only [Act.put]
      refine wpAnyH_take (i := 8) (oi := ⟨some 31, _, _, _, _, _⟩) (v := .int .i64 (x.val : Int)) rfl (by kernel_rfl) (by kernel_rfl) (by kernel_rfl) (fun _ _ _ h => h) (Or.inl ⟨by rfl, fun w hS => by obtain ⟨s1, s2, s3, s4⟩ := hS; go_simp⟩) hS ?_
      simp only [Act.put]
      refine wpAnyH_take (i := 9) (oi := ⟨some 32, _, _, _, _, _⟩) (v := .slice E q z) rfl (by kernel_rfl) (by kernel_rfl) (by kernel_rfl) (fun _ _ _ h => h) (Or.inl ⟨by rfl, fun w hS => by obtain ⟨s1, s2, s3, s4⟩ := hS; go_simp⟩) hS ?_
      simp only [Act.put]
      refine wpAnyH_ready (rs := [2, 4]) (by kernel_rfl) (by simp) (AllReadyH.cons rfl (fun K hK => ?_) (AllReadyH.cons rfl (fun K hK => ?_) AllReadyH.nil))
      · go_simp
        refine (clone_any E q z order _ hId Hq.out (by omega)).mono ?_
        rintro e w2 ⟨v, rfl, hO, hb2⟩
        have hs2 := hb2.size
        try simp only [World.size_alloc] at hs2
        refine hK.out _ _ (hS.bel hb2) (fun hS2 => ?_)
        clear hK K
        refine wpAnyH_ready (rs := [4]) (by kernel_rfl) (by simp) (AllReadyH.cons rfl (fun K hK => ?_) AllReadyH.nil)
        go_simp
        refine hK.out _ _ (hS2.bel ((Bel.refl _).alloc _)) (fun hS3 => ?_)
        clear hK K
        refine wpAnyH_ready (rs := [5]) (by kernel_rfl) (by simp) (AllReadyH.cons rfl (fun K hK => ?_) AllReadyH.nil)
        refine step_append_lies _ rfl (.tmp 25) (.tmp 27) 26 rfl W1.heap.size 3 i0 _ 1 8 Try.underlying26 hi hz0 hz1 hz2 rfl (by decide) v order.length (order.map fun x => .int .i64 x) (by rfl) (hO.alloc _) ⟨w2.heap.size, 0, none⟩ 1 1 [.int .i64 (x.val : Int)] (by rfl) rfl (new1 w2 _ _ _ rfl) (one1 _) (by omega) hX1.out hX2.out (by simp <;> omega) _ rfl ?_
        intro g3 cap3 w3 hown3 hgr3 _ hlt3
        have hbW3 : Bel W w3 := grown_own ((hBd.trans hb2).alloc _) hO (by omega) hgr3
        have hO3 := Own1.snoc hown3
        refine hK.out _ _ (hS.bel (grown_own (hb2.alloc _) hO (Nat.le_refl _) hgr3)) (fun hS4 => ?_)
        clear hK K hown3 hgr3
        have hs3 := hbW3.size
        have hT3 : TabN (fun y => y < w3.heap.size ∧ y ≠ F ∧ y ≠ B) w3 A T := (hT1.kept (w' := w3) (fun y hy => hbW3.block y (by have := hy.1; omega))).mono (fun y hy => ⟨by have := hy.1; omega, hy.2⟩)
        have hI3 := (hI1.kept (w' := w3) (fun y hy => hbW3.block y (by have := hy.1; omega))).ints
        refine wpAnyH_ready (rs := [10]) (by kernel_rfl) (by simp) (AllReadyH.cons rfl (fun K hK => ?_) AllReadyH.nil)
        go_simp
        refine (winsOver_any _ A n c x.val T E q z order w3 hT3 HSQ.out x.isLt hI3 Hq.out (by omega) hns).mono ?_
        rintro e w4 ⟨rfl, rfl⟩
        refine hK.out _ _ hS4 (fun hS5 => ?_)
        clear hK K
        have hcl := beatN_le T x.val order
        have HC := Lib.hid (show PlaceOK A n c F B Tb Pb T d from ih)
        obtain ⟨cnt, hcnt⟩ : ∃ cnt, cnt = beatN T x.val order := ⟨_, rfl⟩
        rw [← hcnt] at hcl ⊢
        have HCN := Lib.hid hcnt
        clear hcnt
        have hc6 : cnt ≤ 6 := by have := Hq.out; omega
        have hu42 : ups ≤ 42 := by have := Hq.out; omega
        refine wpAnyH_take (i := 11) (oi := ⟨some 34, _, _, _, _, _⟩) (v := .int .i64 ((ups + cnt : Nat) : Int)) rfl (by kernel_rfl) (by kernel_rfl) (by kernel_rfl) (fun _ _ _ h => h) (Or.inl ⟨by rfl, fun w hS => by go_simp; exact IntWalk.i64_in _ (by omega)⟩) hS4 ?_
        simp only [Act.put]
        refine wpAnyH_ready (rs := [12]) (by kernel_rfl) (by simp) (AllReadyH.cons rfl (fun K hK => ?_) AllReadyH.nil)
        go_simp
        have hmem : ∀ y ∈ order ++ [(x.val : Int)], 0 ≤ y ∧ y < n := by
          intro y hy
          rcases List.mem_append.1 hy with hy | hy
          · exact hns y hy
          · simp at hy
            subst hy
            exact ⟨by omega, by have := x.isLt; omega⟩
        have hOS := own1_S (F := F) (B := B) hO3 (by first | omega | (simp; omega)) (by first | omega | (simp; omega))
        have hcall := ih (order ++ [(x.val : Int)]) (ups + cnt) (pre.foldl (fun st x => placeS T n d (order ++ [((x : Fin n).val : Int)]) (ups + beatN T x.val order) st) st) (some ⟨g3, 0, none⟩) (order.length + 1) cap3 w3 (by have := HD.out; rw [List.length_append, List.length_singleton]; omega) (by rw [List.length_append, List.length_singleton]) hmem (by have := Hq.out; rw [List.length_append, List.length_singleton]; omega) (hBW.bel hbW3) hS4.2.2.2 hS4.1 hT3 hOS
        rw [Int.natCast_add] at hcall
        refine hcall.mono ?_
        rintro e w4 ⟨⟨rv, rfl⟩, h4, hB4⟩
        refine hK.out _ _ (hS4.two h4 n2 n3 n4 n5 (by omega) (by omega) (by omega) (by omega)) (fun hS6 => ?_)
        refine wpAnyH_done (by kernel_rfl) ?_ _
        have h24 : Two F B W w4 := ((Two.refl F B W).bel hbW3).trans h4
        obtain ⟨k1, _, _, _, _, _, k2, _, _⟩ := hBW
        refine ⟨keeps_two h24 k1 k2, fun y hy => h24.block y (by have := hy.1; omega) hy.2.1 hy.2.2, ?_, h2.trans h24⟩
        rw [List.foldl_append]
        rw [HCN.out] at hB4
        exact hB4
      · go_simp
        refine hK.out _ _ (hS.bel ((Bel.refl _).alloc _)) (fun hS3 => ?_)
        clear hK K
        refine wpAnyH_ready (rs := [2]) (by kernel_rfl) (by simp) (AllReadyH.cons rfl (fun K hK => ?_) AllReadyH.nil)
        go_simp
        refine (clone_any E q z order _ (hId.bel ((Bel.refl _).alloc _)) Hq.out (by omega)).mono ?_
        rintro e w2 ⟨v, rfl, hO, hb2⟩
        have hs2 := hb2.size
        try simp only [World.size_alloc] at hs2
        refine hK.out _ _ (hS3.bel hb2) (fun hS2 => ?_)
        clear hK K
        refine wpAnyH_ready (rs := [5]) (by kernel_rfl) (by simp) (AllReadyH.cons rfl (fun K hK => ?_) AllReadyH.nil)
        refine step_append_lies _ rfl (.tmp 25) (.tmp 27) 26 rfl (W1.alloc (.cells #[.int .i64 (x.val : Int)] 3)).heap.size 3 i0 _ 1 8 Try.underlying26 hi hz0 hz1 hz2 rfl (by decide) v order.length (order.map fun x => .int .i64 x) (by rfl) hO ⟨W1.heap.size, 0, none⟩ 1 1 [.int .i64 (x.val : Int)] (by rfl) rfl (newB.out hb2) (one1 _) (by omega) hX1.out hX2.out (by simp <;> omega) _ rfl ?_
        intro g3 cap3 w3 hown3 hgr3 _ hlt3
        have hbW3 : Bel W w3 := grown_own ((hBd.alloc _).trans hb2) hO (by simp <;> omega) hgr3
        have hO3 := Own1.snoc hown3
        refine hK.out _ _ (hS.bel (grown_own (((Bel.refl W1).alloc _).trans hb2) hO (by simp) hgr3)) (fun hS4 => ?_)
        clear hK K hown3 hgr3
        have hs3 := hbW3.size
        have hT3 : TabN (fun y => y < w3.heap.size ∧ y ≠ F ∧ y ≠ B) w3 A T := (hT1.kept (w' := w3) (fun y hy => hbW3.block y (by have := hy.1; omega))).mono (fun y hy => ⟨by have := hy.1; omega, hy.2⟩)
        have hI3 := (hI1.kept (w' := w3) (fun y hy => hbW3.block y (by have := hy.1; omega))).ints
        refine wpAnyH_ready (rs := [10]) (by kernel_rfl) (by simp) (AllReadyH.cons rfl (fun K hK => ?_) AllReadyH.nil)
        go_simp
        refine (winsOver_any _ A n c x.val T E q z order w3 hT3 HSQ.out x.isLt hI3 Hq.out (by omega) hns).mono ?_
        rintro e w4 ⟨rfl, rfl⟩
        refine hK.out _ _ hS4 (fun hS5 => ?_)
        clear hK K
        have hcl := beatN_le T x.val order
        have HC := Lib.hid (show PlaceOK A n c F B Tb Pb T d from ih)
        obtain ⟨cnt, hcnt⟩ : ∃ cnt, cnt = beatN T x.val order := ⟨_, rfl⟩
        rw [← hcnt] at hcl ⊢
        have HCN := Lib.hid hcnt
        clear hcnt
        have hc6 : cnt ≤ 6 := by have := Hq.out; omega
        have hu42 : ups ≤ 42 := by have := Hq.out; omega
        refine wpAnyH_take (i := 11) (oi := ⟨some 34, _, _, _, _, _⟩) (v := .int .i64 ((ups + cnt : Nat) : Int)) rfl (by kernel_rfl) (by kernel_rfl) (by kernel_rfl) (fun _ _ _ h => h) (Or.inl ⟨by rfl, fun w hS => by go_simp; exact IntWalk.i64_in _ (by omega)⟩) hS4 ?_
        simp only [Act.put]
        refine wpAnyH_ready (rs := [12]) (by kernel_rfl) (by simp) (AllReadyH.cons rfl (fun K hK => ?_) AllReadyH.nil)
        go_simp
        have hmem : ∀ y ∈ order ++ [(x.val : Int)], 0 ≤ y ∧ y < n := by
          intro y hy
          rcases List.mem_append.1 hy with hy | hy
          · exact hns y hy
          · simp at hy
            subst hy
            exact ⟨by omega, by have := x.isLt; omega⟩
        have hOS := own1_S (F := F) (B := B) hO3 (by first | omega | (simp; omega)) (by first | omega | (simp; omega))
        have hcall := ih (order ++ [(x.val : Int)]) (ups + cnt) (pre.foldl (fun st x => placeS T n d (order ++ [((x : Fin n).val : Int)]) (ups + beatN T x.val order) st) st) (some ⟨g3, 0, none⟩) (order.length + 1) cap3 w3 (by have := HD.out; rw [List.length_append, List.length_singleton]; omega) (by rw [List.length_append, List.length_singleton]) hmem (by have := Hq.out; rw [List.length_append, List.length_singleton]; omega) (hBW.bel hbW3) hS4.2.2.2 hS4.1 hT3 hOS
        rw [Int.natCast_add] at hcall
        refine hcall.mono ?_
        rintro e w4 ⟨⟨rv, rfl⟩, h4, hB4⟩
        refine hK.out _ _ (hS4.two h4 n2 n3 n4 n5 (by omega) (by omega) (by omega) (by omega)) (fun hS6 => ?_)
        refine wpAnyH_done (by kernel_rfl) ?_ _
        have h24 : Two F B W w4 := ((Two.refl F B W).bel hbW3).trans h4
        obtain ⟨k1, _, _, _, _, _, k2, _, _⟩ := hBW
        refine ⟨keeps_two h24 k1 k2, fun y hy => h24.block y (by have := hy.1; omega) hy.2.1 hy.2.2, ?_, h2.trans h24⟩
        rw [List.foldl_append]
        rw [HCN.out] at hB4
        exact hB4
  case done =>
    rintro D ys W hD rfl ⟨hBW, h2⟩ hK
    gi_wp2
    refine ⟨by simp, .inl ⟨_, _, rfl, run_takeDeferred hK, ?_⟩⟩
    refine ⟨.tuple #[], by simp [results, Try.f115, go_sem], ⟨_, rfl⟩, (((Two.refl F B w).bel hB0).trans h2).grown (grownBy_putObj' W D (.deferred none)) (fun r e => by cases e; omega), ?_⟩
    rw [placeS, if_neg hle]
    exact BestAt.own hBW (grownBy_putObj' W D (.deferred none)) (fun r e => by cases e; exact ⟨_, hK, rfl⟩)
  case stop =>
    rintro D cc pre W _ _ h _
    exact h.elim
/-- **The search**, by induction on the strips that are left. -/
theorem place_any (A : Option Addr) (n c F B Tb Pb : Nat) (T : List (List Int)) (hs : Square T n) (hn7 : n ≤ 7) (hne : F ≠ B ∧ Tb ≠ F ∧ Tb ≠ B ∧ Pb ≠ F ∧ Pb ≠ B) : ∀ d, PlaceOK A n c F B Tb Pb T d
  | 0 => fun order ups st E q z w hd hq hns hup hBA hTb hPb hT hI => by
    by_cases hle : st.2 ≤ ups
    · rw [placeS, if_pos hle]
      exact place_stop A n c F B Tb Pb ups st E q z w hBA hTb hPb hle
    · rw [placeS, if_neg hle]
      exact place_leaf A n c F B Tb Pb hne.1 order ups st E q z w hd hq hBA hTb hPb hI hle
  | d + 1 => fun order ups st E q z w hd hq hns hup hBA hTb hPb hT hI => by
    by_cases hle : st.2 ≤ ups
    · rw [placeS, if_pos hle]
      exact place_stop A n c F B Tb Pb ups st E q z w hBA hTb hPb hle
    · exact place_step A n c F B Tb Pb T hs hn7 hne d (place_any A n c F B Tb Pb T hs hn7 hne d) order ups st E q z w hd hq hns hup hBA hTb hPb hT hI hle
end Go.Proofs.Ytahkihifgafbnaa
