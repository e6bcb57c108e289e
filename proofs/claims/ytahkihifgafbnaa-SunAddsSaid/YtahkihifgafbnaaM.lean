/- beatsOver; isKing. -/
import Derived.Test.YtahkihifgafbnaaL
namespace Go.Proofs.Ytahkihifgafbnaa
open Go.RowKit

attribute [local go_sem] Oper.semAt_some

/-- Does the strip a beat one that beats the strip b? -/
def overB (T : List (List Int)) (m a b : Nat) : Bool := (outL T m a).any fun x => decide (ent T x.val b = 1)

set_option maxRecDepth 100000 in
set_option maxHeartbeats 4000000 in
theorem over_any (S : Nat → Prop) (A : Option Addr) (m c a b : Nat) (T : List (List Int)) (w : World) (hT : TabN S w A T) (hS : ∀ k, S k → k < w.heap.size) (hs : Square T m) (hm : m ≤ 100) (ha : a < m) (hb : b < m) :
    Calls Try.prog 116 #[.slice A m c, .int .i64 (a : Int), .int .i64 (b : Int)] w fun e w' => e = .returned (.bool (overB T m a b)) ∧ Bel w w' := by
  have HSQ := Lib.hid hs
  clear hs
  refine (callsIn_wide (n := 6)).1 ?_
  refine callsIn_of_wp_marks Try.func116 rfl trivial ?_ rfl
  simp only [Try.ntmps116, List.size_toArray, List.length_cons, List.length_nil, Nat.reduceAdd, Nat.reduceSub, Array.replicate_succ, Array.replicate_zero, List.push_toArray, List.append_toArray, List.nil_append, List.cons_append]
  gi_wp2_with (first | (refine ⟨trivial, ?_⟩; gi_at_call 79; refine (callsIn_wide.2 (beaten_in _ _ _ _ _)).mono ?_; rintro e w' ⟨rfl, rfl⟩) | fail)
  have hB0 : Bel w (((((w.alloc (.cells #[.slice A m c] 61)).alloc (.cells #[.int .i64 (b : Int)] 3)).alloc (.cells #[.bool false] 4)).alloc (.cells #[.slice A m c] 61)).alloc (.cells #[.int .i64 (a : Int)] 3)) := by (repeat (first | exact Bel.refl _ | assumption | refine Bel.drew ?_ | refine Bel.drewN ?_ _ | refine Bel.alloc ?_ _ | refine Bel.setCell ?_ (by first | omega | (simp; done) | (simp; omega) | (simp at *; omega)) _ | refine Bel.trans ?_ (by assumption)))
  have hsz0 : (((((w.alloc (.cells #[.slice A m c] 61)).alloc (.cells #[.int .i64 (b : Int)] 3)).alloc (.cells #[.bool false] 4)).alloc (.cells #[.slice A m c] 61)).alloc (.cells #[.int .i64 (a : Int)] 3)).heap.size = w.heap.size + 5 := by simp
  have c3 : (((((w.alloc (.cells #[.slice A m c] 61)).alloc (.cells #[.int .i64 (b : Int)] 3)).alloc (.cells #[.bool false] 4)).alloc (.cells #[.slice A m c] 61)).alloc (.cells #[.int .i64 (a : Int)] 3)).cell? ⟨w.heap.size, 0, none⟩ = some (.slice A m c) := by go_simp
  have c5 : (((((w.alloc (.cells #[.slice A m c] 61)).alloc (.cells #[.int .i64 (b : Int)] 3)).alloc (.cells #[.bool false] 4)).alloc (.cells #[.slice A m c] 61)).alloc (.cells #[.int .i64 (a : Int)] 3)).cell? ⟨w.heap.size + 1, 0, none⟩ = some (.int .i64 (b : Int)) := by go_simp
  have c6 : (((((w.alloc (.cells #[.slice A m c] 61)).alloc (.cells #[.int .i64 (b : Int)] 3)).alloc (.cells #[.bool false] 4)).alloc (.cells #[.slice A m c] 61)).alloc (.cells #[.int .i64 (a : Int)] 3)).cell? ⟨w.heap.size + 1 + 1, 0, none⟩ = some (.bool false) := by go_simp
  have z6 : (((((w.alloc (.cells #[.slice A m c] 61)).alloc (.cells #[.int .i64 (b : Int)] 3)).alloc (.cells #[.bool false] 4)).alloc (.cells #[.slice A m c] 61)).alloc (.cells #[.int .i64 (a : Int)] 3)).frozen? ⟨w.heap.size + 1 + 1, 0, none⟩ = false := by go_simp
  have cBt : (((((w.alloc (.cells #[.slice A m c] 61)).alloc (.cells #[.int .i64 (b : Int)] 3)).alloc (.cells #[.bool false] 4)).alloc (.cells #[.slice A m c] 61)).alloc (.cells #[.int .i64 (a : Int)] 3)).cell? ⟨w.heap.size + 1 + 1 + 1, 0, none⟩ = some (.slice A m c) := by go_simp
  have cBs : (((((w.alloc (.cells #[.slice A m c] 61)).alloc (.cells #[.int .i64 (b : Int)] 3)).alloc (.cells #[.bool false] 4)).alloc (.cells #[.slice A m c] 61)).alloc (.cells #[.int .i64 (a : Int)] 3)).cell? ⟨w.heap.size + 1 + 1 + 1 + 1, 0, none⟩ = some (.int .i64 (a : Int)) := by go_simp
  obtain ⟨W0, hW0⟩ : ∃ W0, (((((w.alloc (.cells #[.slice A m c] 61)).alloc (.cells #[.int .i64 (b : Int)] 3)).alloc (.cells #[.bool false] 4)).alloc (.cells #[.slice A m c] 61)).alloc (.cells #[.int .i64 (a : Int)] 3)) = W0 := ⟨_, rfl⟩
  rw [hW0] at hB0 hsz0 c3 c5 c6 z6 cBt cBs ⊢
  clear hW0
  have hTW : TabN (fun x => x < W0.heap.size ∧ x ≠ w.heap.size + 1 + 1) W0 A T := (hT.kept (fun x hx => hB0.block x (hS x hx))).mono (fun x hx => ⟨by have := hS x hx; omega, by have := hS x hx; omega⟩)
  refine wpIn_rangeFunc_ownF rfl (by omega) (gf := 111) (lb := #[.pointer (some ⟨w.heap.size + 1 + 1 + 1, 0, none⟩), .pointer (some ⟨w.heap.size + 1 + 1 + 1 + 1, 0, none⟩)]) rfl trivial (enters_of Try.func111 (by kernel_rfl) rfl)
    (beaten_stops 4 (w.heap.size + 1 + 1 + 1) (w.heap.size + 1 + 1 + 1 + 1) (fun x => x < W0.heap.size ∧ x ≠ w.heap.size + 1 + 1) A m c a T W0 HSQ.out hm ha ⟨by omega, by omega⟩ ⟨by omega, by omega⟩ (fun x h => h.1) cBt cBs hTW)
    (fun h k => h.trans k) (Kept.put (fun x h => h.1)) (Below.refl _ _) (fun _ => rfl)
    (fun pre W => ((∀ p ∈ pre, ¬ ent T p.val b = 1) ∧ W.cell? ⟨w.heap.size + 1 + 1, 0, none⟩ = some (.bool false) ∧ W.frozen? ⟨w.heap.size + 1 + 1, 0, none⟩ = false) ∧ W0.grownBy W (some (w.heap.size + 1 + 1)))
    (fun cc pre W => (cc = .ret ∧ (∃ p ∈ pre, ent T p.val b = 1) ∧ W.cell? ⟨w.heap.size + 1 + 1, 0, none⟩ = some (.bool true)) ∧ W0.grownBy W (some (w.heap.size + 1 + 1)))
    (OwnFrom.and (Own.from (fun s A B row hs hg hr => ⟨hs.1, cell_kept hs.2.1 hg hr, (frozen_kept hs.2.1 hg hr).trans hs.2.2⟩) _) (own_grown (Nat.le_refl _)))
    (fun cc => OwnFrom.and (Own.from (fun s A B row hs hg hr => ⟨hs.1, hs.2.1, cell_kept hs.2.2 hg hr⟩) _) (own_grown (Nat.le_refl _)))
    ⟨⟨by simp, c6, z6⟩, ⟨rfl, rfl, rfl, Nat.le_refl _, fun _ _ _ => rfl⟩⟩
    (fun x => { tmps := #[.slice A m c, .int .i64 (a : Int), .int .i64 (b : Int), .pointer (some ⟨w.heap.size, 0, none⟩), undef, .pointer (some ⟨w.heap.size + 1, 0, none⟩), .pointer (some ⟨w.heap.size + 1 + 1, 0, none⟩), .int .i64 (x.val : Int), .slice A m c, .int .i64 (a : Int), .func (.func 111) #[] #[.pointer (some ⟨w.heap.size + 1 + 1 + 1, 0, none⟩), .pointer (some ⟨w.heap.size + 1 + 1 + 1 + 1, 0, none⟩)], .int .i64 (x.val : Int), undef, undef, undef, undef], defers := [] }) ?assign ?body ?done ?stop
  case assign =>
    intro l x W K hK
    gi_wp2
    simpa using hK
  case body =>
    rintro l pre x W ⟨⟨hp, d6, e6⟩, hgb⟩ hlen
    have d3 : W.cell? ⟨w.heap.size, 0, none⟩ = some (.slice A m c) := by rw [World.cell?_of_block (w := W0) (a := ⟨w.heap.size, 0, none⟩) (hgb.block w.heap.size (by omega) (by simp; omega))]; exact c3
    have d5 : W.cell? ⟨w.heap.size + 1, 0, none⟩ = some (.int .i64 (b : Int)) := by rw [World.cell?_of_block (w := W0) (a := ⟨w.heap.size + 1, 0, none⟩) (hgb.block (w.heap.size + 1) (by omega) (by simp))]; exact c5
    have hT1 := hTW.kept (w' := W) (fun y hy => hgb.block y hy.1 (by simp; exact hy.2))
    by_cases q : ent T x.val b = 1
    · have hd : decide (ent T x.val b = 1) = true := by simpa using q
      gi_wp2_with (first | (refine ⟨trivial, ?_⟩; gi_at_call 80; refine (CallsIn.inRound l (callsIn_wide.2 (beats_any _ A m c x.val b T _ hT1 HSQ.out x.isLt hb))).mono ?_; rintro e w' ⟨rfl, rfl⟩; rw [hd]) | fail)
      exact ⟨KeepsOthers.setCell _ _ _, ⟨rfl, ⟨x, by simp, q⟩, World.cell?_setCell_same' _ _ _ (by rw [d6]; rfl)⟩, gb_store hgb _⟩
    · have hd : decide (ent T x.val b = 1) = false := by simpa using q
      gi_wp2_with (first | (refine ⟨trivial, ?_⟩; gi_at_call 80; refine (CallsIn.inRound l (callsIn_wide.2 (beats_any _ A m c x.val b T _ hT1 HSQ.out x.isLt hb))).mono ?_; rintro e w' ⟨rfl, rfl⟩; rw [hd]) | fail)
      exact ⟨KeepsOthers.refl _, Kept.refl _ _, ⟨fun p hp' => (List.mem_append.1 hp').elim (hp p) (fun e => by simp at e; subst e; exact q), d6, e6⟩, hgb⟩
  case done =>
    rintro D ys W hD rfl ⟨⟨hne, d6, e6⟩, hgb⟩ hK
    gi_wp2
    have hK' := (KeepsOthers.setCell W ⟨w.heap.size + 1 + 1, 0, none⟩ (.bool false)).same D _ hK rfl
    refine ⟨by simp, .inl ⟨_, _, rfl, run_takeDeferred hK', ?_⟩⟩
    have hc6 := cell_kept (World.cell?_setCell_same' W ⟨w.heap.size + 1 + 1, 0, none⟩ (.bool false) (by rw [d6]; rfl)) (grownBy_putObj' _ D (.deferred none)) (fun r e => by cases e; exact ⟨_, hK', rfl⟩)
    refine ⟨.bool (overB T m a b), ?_, rfl, ?_⟩
    · rw [show overB T m a b = false from by unfold overB; rw [List.any_eq_false]; intro x hx; simpa using hne x hx]
      simp [results, Try.f116, go_sem, hc6]
    · exact Below.grown (Below.grown hB0 (gb_store hgb (.bool false)) hB0.size (fun x e => by cases e; omega)) (grownBy_putObj' _ D (.deferred none)) (Nat.le_trans hB0.size (gb_store hgb (.bool false)).size) (fun k e => by cases e; omega)
  case stop =>
    rintro D cc pre W hD hpre ⟨⟨rfl, ⟨p, hp, hq⟩, d6⟩, hgb⟩ hK
    gi_wp2
    refine ⟨by simp, .inl ⟨_, _, rfl, run_takeDeferred hK, ?_⟩⟩
    have hc6 := cell_kept d6 (grownBy_putObj' _ D (.deferred none)) (fun r e => by cases e; exact ⟨_, hK, rfl⟩)
    refine ⟨.bool (overB T m a b), ?_, rfl, ?_⟩
    · rw [show overB T m a b = true from by unfold overB; rw [List.any_eq_true]; exact ⟨p, hpre.subset hp, by simpa using hq⟩]
      simp [results, Try.f116, go_sem, hc6]
    · exact Below.grown (Below.grown hB0 hgb hB0.size (fun x e => by cases e; omega)) (grownBy_putObj' _ D (.deferred none)) (Nat.le_trans hB0.size hgb.size) (fun k e => by cases e; omega)
/-- Does a strip beat each other one, or one that beats it? -/
def kingB (T : List (List Int)) (m s : Nat) : Bool := (restO m [(s : Int)]).all fun x => decide (ent T s x.val = 1) || overB T m s x.val
theorem keeps_bel {W W' : World} (h : Bel W W') : KeepsOthers W W' := ⟨h.size, fun k _ hk _ => (h.block k (Array.getElem?_eq_some_iff.1 hk).1).trans hk⟩
theorem gb_bel {W0 W W' : World} {g : Nat} (h : W0.grownBy W (some g)) (hb : Bel W W') : W0.grownBy W' (some g) :=
  ⟨hb.os.trans h.os, hb.tape.trans h.tape, hb.output.trans h.output, Nat.le_trans h.size hb.size, fun k hk hne => (hb.block k (Nat.lt_of_lt_of_le hk h.size)).trans (h.block k hk hne)⟩

set_option maxRecDepth 100000 in
set_option maxHeartbeats 4000000 in
theorem king_any (S : Nat → Prop) (A : Option Addr) (m c s : Nat) (T : List (List Int)) (w : World) (hT : TabN S w A T) (hS : ∀ k, S k → k < w.heap.size) (hs : Square T m) (hm : m ≤ 100) (hsm : s < m) :
    Calls Try.prog 89 #[.slice A m c, .int .i64 (s : Int)] w fun e w' => e = .returned (.bool (kingB T m s)) ∧ Bel w w' := by
  have HSQ := Lib.hid hs
  clear hs
  refine (callsIn_wide (n := 9)).1 ?_
  refine callsIn_of_wp_marks Try.func89 rfl trivial ?_ rfl
  simp only [Try.ntmps89, List.size_toArray, List.length_cons, List.length_nil, Nat.reduceAdd, Nat.reduceSub, Array.replicate_succ, Array.replicate_zero, List.push_toArray, List.append_toArray, List.nil_append, List.cons_append]
  gi_wp2_with (first | (refine ⟨trivial, ?_⟩; gi_at_call 114; refine (callsIn_wide.2 (others_in _ _ _ _ _ _ _)).mono ?_; rintro e w' ⟨rfl, rfl⟩) | fail)
  have hB0 : Bel w ((((((w.alloc (.cells #[.slice A m c] 61)).alloc (.cells #[.int .i64 (s : Int)] 3)).alloc (.cells #[.bool false] 4)).alloc (.cells #[.int .i64 (s : Int)] 3)).alloc (.cells #[.slice A m c] 61)).alloc (.cells #[.slice (some ⟨w.heap.size + 1 + 1 + 1, 0, none⟩) 1 1] 26)) := by (repeat (first | exact Bel.refl _ | assumption | refine Bel.drew ?_ | refine Bel.drewN ?_ _ | refine Bel.alloc ?_ _ | refine Bel.setCell ?_ (by first | omega | (simp; done) | (simp; omega) | (simp at *; omega)) _ | refine Bel.trans ?_ (by assumption)))
  have hsz0 : ((((((w.alloc (.cells #[.slice A m c] 61)).alloc (.cells #[.int .i64 (s : Int)] 3)).alloc (.cells #[.bool false] 4)).alloc (.cells #[.int .i64 (s : Int)] 3)).alloc (.cells #[.slice A m c] 61)).alloc (.cells #[.slice (some ⟨w.heap.size + 1 + 1 + 1, 0, none⟩) 1 1] 26)).heap.size = w.heap.size + 6 := by simp
  have c2 : ((((((w.alloc (.cells #[.slice A m c] 61)).alloc (.cells #[.int .i64 (s : Int)] 3)).alloc (.cells #[.bool false] 4)).alloc (.cells #[.int .i64 (s : Int)] 3)).alloc (.cells #[.slice A m c] 61)).alloc (.cells #[.slice (some ⟨w.heap.size + 1 + 1 + 1, 0, none⟩) 1 1] 26)).cell? ⟨w.heap.size, 0, none⟩ = some (.slice A m c) := by go_simp
  have c3 : ((((((w.alloc (.cells #[.slice A m c] 61)).alloc (.cells #[.int .i64 (s : Int)] 3)).alloc (.cells #[.bool false] 4)).alloc (.cells #[.int .i64 (s : Int)] 3)).alloc (.cells #[.slice A m c] 61)).alloc (.cells #[.slice (some ⟨w.heap.size + 1 + 1 + 1, 0, none⟩) 1 1] 26)).cell? ⟨w.heap.size + 1, 0, none⟩ = some (.int .i64 (s : Int)) := by go_simp
  have c4 : ((((((w.alloc (.cells #[.slice A m c] 61)).alloc (.cells #[.int .i64 (s : Int)] 3)).alloc (.cells #[.bool false] 4)).alloc (.cells #[.int .i64 (s : Int)] 3)).alloc (.cells #[.slice A m c] 61)).alloc (.cells #[.slice (some ⟨w.heap.size + 1 + 1 + 1, 0, none⟩) 1 1] 26)).cell? ⟨w.heap.size + 1 + 1, 0, none⟩ = some (.bool false) := by go_simp
  have z4 : ((((((w.alloc (.cells #[.slice A m c] 61)).alloc (.cells #[.int .i64 (s : Int)] 3)).alloc (.cells #[.bool false] 4)).alloc (.cells #[.int .i64 (s : Int)] 3)).alloc (.cells #[.slice A m c] 61)).alloc (.cells #[.slice (some ⟨w.heap.size + 1 + 1 + 1, 0, none⟩) 1 1] 26)).frozen? ⟨w.heap.size + 1 + 1, 0, none⟩ = false := by go_simp
  have cI : ((((((w.alloc (.cells #[.slice A m c] 61)).alloc (.cells #[.int .i64 (s : Int)] 3)).alloc (.cells #[.bool false] 4)).alloc (.cells #[.int .i64 (s : Int)] 3)).alloc (.cells #[.slice A m c] 61)).alloc (.cells #[.slice (some ⟨w.heap.size + 1 + 1 + 1, 0, none⟩) 1 1] 26)).cell? ⟨w.heap.size + 1 + 1 + 1, 0, none⟩ = some (.int .i64 (s : Int)) := by go_simp
  have cBt : ((((((w.alloc (.cells #[.slice A m c] 61)).alloc (.cells #[.int .i64 (s : Int)] 3)).alloc (.cells #[.bool false] 4)).alloc (.cells #[.int .i64 (s : Int)] 3)).alloc (.cells #[.slice A m c] 61)).alloc (.cells #[.slice (some ⟨w.heap.size + 1 + 1 + 1, 0, none⟩) 1 1] 26)).cell? ⟨w.heap.size + 1 + 1 + 1 + 1, 0, none⟩ = some (.slice A m c) := by go_simp
  have cBs : ((((((w.alloc (.cells #[.slice A m c] 61)).alloc (.cells #[.int .i64 (s : Int)] 3)).alloc (.cells #[.bool false] 4)).alloc (.cells #[.int .i64 (s : Int)] 3)).alloc (.cells #[.slice A m c] 61)).alloc (.cells #[.slice (some ⟨w.heap.size + 1 + 1 + 1, 0, none⟩) 1 1] 26)).cell? ⟨w.heap.size + 1 + 1 + 1 + 1 + 1, 0, none⟩ = some (.slice (some ⟨w.heap.size + 1 + 1 + 1, 0, none⟩) 1 1) := by go_simp
  obtain ⟨W0, hW0⟩ : ∃ W0, ((((((w.alloc (.cells #[.slice A m c] 61)).alloc (.cells #[.int .i64 (s : Int)] 3)).alloc (.cells #[.bool false] 4)).alloc (.cells #[.int .i64 (s : Int)] 3)).alloc (.cells #[.slice A m c] 61)).alloc (.cells #[.slice (some ⟨w.heap.size + 1 + 1 + 1, 0, none⟩) 1 1] 26)) = W0 := ⟨_, rfl⟩
  rw [hW0] at hB0 hsz0 c2 c3 c4 z4 cI cBt cBs ⊢
  clear hW0
  have hTW : TabN (fun x => x < W0.heap.size ∧ x ≠ w.heap.size + 1 + 1) W0 A T := (hT.kept (fun x hx => hB0.block x (hS x hx))).mono (fun x hx => ⟨by have := hS x hx; omega, by have := hS x hx; omega⟩)
  have hIW : IntsS (fun x => x < W0.heap.size ∧ x ≠ w.heap.size + 1 + 1) W0 (some ⟨w.heap.size + 1 + 1 + 1, 0, none⟩) [(s : Int)] := .inr ⟨_, 0, rfl, ⟨by omega, by omega⟩, fun j v hj => by
    cases j with
    | zero => simp at hj; subst hj; exact cI
    | succ j => simp at hj⟩
  refine wpIn_rangeFunc_ownF rfl (by omega) (gf := 124) (lb := #[.pointer (some ⟨w.heap.size + 1 + 1 + 1 + 1, 0, none⟩), .pointer (some ⟨w.heap.size + 1 + 1 + 1 + 1 + 1, 0, none⟩)]) rfl trivial (enters_of Try.func124 (by kernel_rfl) rfl)
    (others_stops 7 (w.heap.size + 1 + 1 + 1 + 1) (w.heap.size + 1 + 1 + 1 + 1 + 1) (fun x => x < W0.heap.size ∧ x ≠ w.heap.size + 1 + 1) A m c (some ⟨w.heap.size + 1 + 1 + 1, 0, none⟩) 1 1 [(s : Int)] W0 hm rfl (by decide) ⟨by omega, by omega⟩ ⟨by omega, by omega⟩ (fun x h => h.1) cBt cBs hIW)
    (fun h k => h.trans k) (Kept.put (fun x h => h.1)) (Below.refl _ _) (fun _ => rfl)
    (fun pre W => ((∀ p ∈ pre, ent T s p.val = 1 ∨ overB T m s p.val = true) ∧ W.cell? ⟨w.heap.size + 1 + 1, 0, none⟩ = some (.bool false) ∧ W.frozen? ⟨w.heap.size + 1 + 1, 0, none⟩ = false) ∧ W0.grownBy W (some (w.heap.size + 1 + 1)))
    (fun cc pre W => (cc = .ret ∧ (∃ p ∈ pre, ¬ ent T s p.val = 1 ∧ overB T m s p.val = false) ∧ W.cell? ⟨w.heap.size + 1 + 1, 0, none⟩ = some (.bool false)) ∧ W0.grownBy W (some (w.heap.size + 1 + 1)))
    (OwnFrom.and (Own.from (fun s A B row hs hg hr => ⟨hs.1, cell_kept hs.2.1 hg hr, (frozen_kept hs.2.1 hg hr).trans hs.2.2⟩) _) (own_grown (Nat.le_refl _)))
    (fun cc => OwnFrom.and (Own.from (fun s A B row hs hg hr => ⟨hs.1, hs.2.1, cell_kept hs.2.2 hg hr⟩) _) (own_grown (Nat.le_refl _)))
    ⟨⟨by simp, c4, z4⟩, ⟨rfl, rfl, rfl, Nat.le_refl _, fun _ _ _ => rfl⟩⟩
    (fun x => { tmps := #[.slice A m c, .int .i64 (s : Int), .pointer (some ⟨w.heap.size, 0, none⟩), .pointer (some ⟨w.heap.size + 1, 0, none⟩), .pointer (some ⟨w.heap.size + 1 + 1, 0, none⟩), .int .i64 (x.val : Int), .slice A m c, .int .i64 (s : Int), .slice (some ⟨w.heap.size + 1 + 1 + 1, 0, none⟩) 1 1, .func (.func 124) #[] #[.pointer (some ⟨w.heap.size + 1 + 1 + 1 + 1, 0, none⟩), .pointer (some ⟨w.heap.size + 1 + 1 + 1 + 1 + 1, 0, none⟩)], .int .i64 (x.val : Int), undef, undef, undef, undef, undef, undef, undef, undef, undef, undef, undef, undef], defers := [] }) ?assign ?body ?done ?stop
  case assign =>
    intro l x W K hK
    gi_wp2
    simpa using hK
  case body =>
    rintro l pre x W ⟨⟨hp, d4, e4⟩, hgb⟩ hlen
    have d2 : W.cell? ⟨w.heap.size, 0, none⟩ = some (.slice A m c) := by rw [World.cell?_of_block (w := W0) (a := ⟨w.heap.size, 0, none⟩) (hgb.block w.heap.size (by omega) (by simp; omega))]; exact c2
    have d3 : W.cell? ⟨w.heap.size + 1, 0, none⟩ = some (.int .i64 (s : Int)) := by rw [World.cell?_of_block (w := W0) (a := ⟨w.heap.size + 1, 0, none⟩) (hgb.block (w.heap.size + 1) (by omega) (by simp))]; exact c3
    have hT1 := hTW.kept (w' := W) (fun y hy => hgb.block y hy.1 (by simp; exact hy.2))
    have hgs := hgb.size
    have hrl : w.heap.size + 1 + 1 < W.heap.size := by omega
    have hSW : ∀ k, (fun x => x < W0.heap.size ∧ x ≠ w.heap.size + 1 + 1) k → k < W.heap.size := fun k hk => Nat.lt_of_lt_of_le hk.1 hgs
    by_cases q : ent T s x.val = 1
    · have hd : decide (ent T s x.val = 1) = true := by simpa using q
      gi_wp2_with (first | (refine ⟨trivial, ?_⟩; gi_at_call 80; refine (CallsIn.inRound l (callsIn_wide.2 (beats_any _ A m c s x.val T _ hT1 HSQ.out hsm x.isLt))).mono ?_; rintro e w' ⟨rfl, rfl⟩; rw [hd]) | (refine ⟨trivial, ?_⟩; gi_at_call 116; refine (CallsIn.inRound l (callsIn_wide.2 (over_any _ A m c s x.val T _ hT1 hSW HSQ.out hm hsm x.isLt))).mono ?_; rintro e W2 ⟨rfl, hb2⟩; rw [ho]; have d4b : W2.cell? ⟨w.heap.size + 1 + 1, 0, none⟩ = some (.bool false) := (by rw [hb2.use.1 _ _ hrl]; exact d4); have e4b : W2.frozen? ⟨w.heap.size + 1 + 1, 0, none⟩ = false := (by rw [hb2.use.2.1 _ _ hrl]; exact e4)) | fail)
      refine ⟨trivial, ?_⟩
      gi_wp2
      exact ⟨KeepsOthers.refl _, Kept.refl _ _, ⟨fun p hp' => (List.mem_append.1 hp').elim (hp p) (fun e => by simp at e; subst e; exact .inl q), d4, e4⟩, hgb⟩
    · have hd : decide (ent T s x.val = 1) = false := by simpa using q
      cases ho : overB T m s x.val
      · gi_wp2_with (first | (refine ⟨trivial, ?_⟩; gi_at_call 80; refine (CallsIn.inRound l (callsIn_wide.2 (beats_any _ A m c s x.val T _ hT1 HSQ.out hsm x.isLt))).mono ?_; rintro e w' ⟨rfl, rfl⟩; rw [hd]) | (refine ⟨trivial, ?_⟩; gi_at_call 116; refine (CallsIn.inRound l (callsIn_wide.2 (over_any _ A m c s x.val T _ hT1 hSW HSQ.out hm hsm x.isLt))).mono ?_; rintro e W2 ⟨rfl, hb2⟩; rw [ho]; have d4b : W2.cell? ⟨w.heap.size + 1 + 1, 0, none⟩ = some (.bool false) := (by rw [hb2.use.1 _ _ hrl]; exact d4); have e4b : W2.frozen? ⟨w.heap.size + 1 + 1, 0, none⟩ = false := (by rw [hb2.use.2.1 _ _ hrl]; exact e4)) | fail)
        exact ⟨(keeps_bel hb2).trans (KeepsOthers.setCell _ _ _), ⟨rfl, ⟨x, by simp, q, ho⟩, World.cell?_setCell_same' _ _ _ (by rw [d4b]; rfl)⟩, gb_store (gb_bel hgb hb2) _⟩
      · gi_wp2_with (first | (refine ⟨trivial, ?_⟩; gi_at_call 80; refine (CallsIn.inRound l (callsIn_wide.2 (beats_any _ A m c s x.val T _ hT1 HSQ.out hsm x.isLt))).mono ?_; rintro e w' ⟨rfl, rfl⟩; rw [hd]) | (refine ⟨trivial, ?_⟩; gi_at_call 116; refine (CallsIn.inRound l (callsIn_wide.2 (over_any _ A m c s x.val T _ hT1 hSW HSQ.out hm hsm x.isLt))).mono ?_; rintro e W2 ⟨rfl, hb2⟩; rw [ho]; have d4b : W2.cell? ⟨w.heap.size + 1 + 1, 0, none⟩ = some (.bool false) := (by rw [hb2.use.1 _ _ hrl]; exact d4); have e4b : W2.frozen? ⟨w.heap.size + 1 + 1, 0, none⟩ = false := (by rw [hb2.use.2.1 _ _ hrl]; exact e4)) | fail)
        exact ⟨keeps_bel hb2, fun z hz => hb2.block z (hSW z hz), ⟨fun p hp' => (List.mem_append.1 hp').elim (hp p) (fun e => by simp at e; subst e; exact .inr ho), d4b, e4b⟩, gb_bel hgb hb2⟩
  case done =>
    rintro D ys W hD rfl ⟨⟨hne, d4, e4⟩, hgb⟩ hK
    gi_wp2
    have hK' := (KeepsOthers.setCell W ⟨w.heap.size + 1 + 1, 0, none⟩ (.bool true)).same D _ hK rfl
    refine ⟨by simp, .inl ⟨_, _, rfl, run_takeDeferred hK', ?_⟩⟩
    have hc6 := cell_kept (World.cell?_setCell_same' W ⟨w.heap.size + 1 + 1, 0, none⟩ (.bool true) (by rw [d4]; rfl)) (grownBy_putObj' _ D (.deferred none)) (fun r e => by cases e; exact ⟨_, hK', rfl⟩)
    refine ⟨.bool (kingB T m s), ?_, rfl, ?_⟩
    · rw [show kingB T m s = true from by unfold kingB; rw [List.all_eq_true]; intro x hx; simpa using hne x hx]
      simp [results, Try.f89, go_sem, hc6]
    · exact Below.grown (Below.grown hB0 (gb_store hgb (.bool true)) hB0.size (fun x e => by cases e; omega)) (grownBy_putObj' _ D (.deferred none)) (Nat.le_trans hB0.size (gb_store hgb (.bool true)).size) (fun k e => by cases e; omega)
  case stop =>
    rintro D cc pre W hD hpre ⟨⟨rfl, ⟨p, hp, hq, hq'⟩, d4⟩, hgb⟩ hK
    gi_wp2
    refine ⟨by simp, .inl ⟨_, _, rfl, run_takeDeferred hK, ?_⟩⟩
    have hc6 := cell_kept d4 (grownBy_putObj' _ D (.deferred none)) (fun r e => by cases e; exact ⟨_, hK, rfl⟩)
    refine ⟨.bool (kingB T m s), ?_, rfl, ?_⟩
    · rw [show kingB T m s = false from by unfold kingB; rw [List.all_eq_false]; exact ⟨p, hpre.subset hp, by simp [hq, hq']⟩]
      simp [results, Try.f89, go_sem, hc6]
    · exact Below.grown (Below.grown hB0 hgb hB0.size (fun x e => by cases e; omega)) (grownBy_putObj' _ D (.deferred none)) (Nat.le_trans hB0.size hgb.size) (fun k e => by cases e; omega)
end Go.Proofs.Ytahkihifgafbnaa
