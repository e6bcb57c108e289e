/- feud.shopOf, shop.has, and Validate. -/
import Derived.Test.YtcndmfkbfimllaaE
namespace Go.Proofs.Ytcndmfkbfimllaa
open Go.RowKit Go.Maps

theorem FM.of {w : World} {M n : Nat} {G : List (Nat × Nat)} (h : w.ownsMap Try.prog 45 bR M n (setOf yesD (G.map keyL))) (hG : Small G) (hl : G.length ≤ 1000) : FM w M G := by
  obtain ⟨es, clock, hb, F, hs, hD⟩ := h
  refine ⟨hG, es, clock, hb, F, ?_, hD⟩
  have h1 := size_keys hG
  rw [hD, size_eq, length_read] at h1
  have := sizeK_le G
  omega
/-- The pairs as integers. -/
def up (G : List (Nat × Nat)) : List (Int × Int) := G.map fun f => ((f.1 : Int), (f.2 : Int))
theorem up_length (G : List (Nat × Nat)) : (up G).length = G.length := by simp [up]
theorem up_at {w : World} {A : Option Addr} {G : List (Nat × Nat)} (h : Prs w A (up G)) {k : Nat} (hk : k < G.length) :
    ∃ b o x y, A = some ⟨b, o, none⟩ ∧ b < w.heap.size ∧ G[k]? = some (x, y) ∧ w.cell? ⟨b, o + k * 2, none⟩ = some (.int .i64 (x : Int)) ∧ w.cell? ⟨b, o + k * 2 + 1, none⟩ = some (.int .i64 (y : Int)) := by
  obtain ⟨b, o, s, m, hA, hb, hg, h1, h2⟩ := h.at_ (k := k) (by rw [up_length]; exact hk)
  have e : G[k]? = some (G[k].1, G[k].2) := by rw [List.getElem?_eq_getElem hk]
  unfold up at hg
  rw [List.getElem?_map, e] at hg
  simp at hg
  obtain ⟨rfl, rfl⟩ := hg
  exact ⟨b, o, _, _, hA, hb, e, h1, h2⟩
/-- A shop that holds just the feuds G in its map. -/
def ShopAt (w : World) (p : Int) (G : List (Nat × Nat)) (e : Ending) (w' : World) : Prop := ∃ M, e = .returned (.agg #[.int .i64 p, .map (some M)]) ∧ FM w' M G ∧ Bel w w' ∧ w.heap.size ≤ M
/-- While the feuds are written. -/
structure SIn (w wr : World) (p : Int) (G : List (Nat × Nat)) : Prop where
  bel : Bel w wr
  fm : FM wr (w.heap.size + 1 + 1) G
  c0 : wr.cell? ⟨w.heap.size + 1 + 1 + 1, 0, none⟩ = some (.int .i64 p)
  c1 : wr.cell? ⟨w.heap.size + 1 + 1 + 1, 1, none⟩ = some (.map (some (w.heap.size + 1 + 1)))
  r0 : wr.cell? ⟨w.heap.size + 1, 0, none⟩ = some (.int .i64 0)
  r1 : wr.cell? ⟨w.heap.size + 1, 1, none⟩ = some (.map none)
  rf : ∀ o, wr.frozen? ⟨w.heap.size + 1, o, none⟩ = false
  sz : w.heap.size + 1 + 1 + 1 < wr.heap.size
theorem SIn.put {w wr w3 : World} {p : Int} {G : List (Nat × Nat)} {f : Nat × Nat} {o : Obj} (h : SIn w wr p G) (hf : f.1 ≤ 1000 ∧ f.2 ≤ 1000) (hl : G.length < 1000)
    (hown : w3.ownsMap Try.prog 45 bR (w.heap.size + 1 + 1) (1000 + 1) ((setOf yesD (G.map keyL)).put (keyL f) yesD)) (hg : (wr.alloc o).grownBy w3 (some (w.heap.size + 1 + 1))) : SIn w w3 p (G ++ [f]) := by
  have hs := h.sz
  have hb : Bel wr (wr.alloc o) := (Bel.refl wr).alloc o
  have cell : ∀ b i, b < wr.heap.size → b ≠ w.heap.size + 1 + 1 → w3.cell? ⟨b, i, none⟩ = wr.cell? ⟨b, i, none⟩ := fun b i h1 h2 =>
    (World.cell?_of_block (w := wr.alloc o) (a := ⟨b, i, none⟩) (hg.block b (by simp; omega) (fun e => h2 (Option.some.inj e)))).trans (hb.use.1 _ _ h1)
  have froz : ∀ b i, b < wr.heap.size → b ≠ w.heap.size + 1 + 1 → w3.frozen? ⟨b, i, none⟩ = wr.frozen? ⟨b, i, none⟩ := fun b i h1 h2 =>
    (World.frozen?_of_block (w := wr.alloc o) (a := ⟨b, i, none⟩) (hg.block b (by simp; omega) (fun e => h2 (Option.some.inj e)))).trans (hb.use.2.1 _ _ h1)
  refine ⟨Below.grown (h.bel.alloc o) hg (h.bel.alloc o).size (fun k hk => by injection hk with hk; omega), ?_, ?_, ?_, ?_, ?_, ?_, ?_⟩
  · refine FM.of (n := 1000 + 1) ?_ (fun x hx => ?_) (by simp; omega)
    · rw [List.map_append, List.map_cons, List.map_nil, setOf_snoc]; exact hown
    · rcases List.mem_append.1 hx with hx | hx
      · exact h.fm.1 x hx
      · obtain rfl := List.mem_singleton.1 hx; exact hf
  · rw [cell _ _ (by omega) (by omega)]; exact h.c0
  · rw [cell _ _ (by omega) (by omega)]; exact h.c1
  · rw [cell _ _ (by omega) (by omega)]; exact h.r0
  · rw [cell _ _ (by omega) (by omega)]; exact h.r1
  · intro i; rw [froz _ _ (by omega) (by omega)]; exact h.rf i
  · have := hg.size; simp at this; omega
theorem stored2 {w : World} {g : Nat} {a b x y : Value} (h0 : w.cell? ⟨g, 0, none⟩ = some a) (h1 : w.cell? ⟨g, 1, none⟩ = some b) :
    ((w.setCell ⟨g, 0, none⟩ x).setCell ⟨g, 1, none⟩ y).cell? ⟨g, 0, none⟩ = some x ∧ ((w.setCell ⟨g, 0, none⟩ x).setCell ⟨g, 1, none⟩ y).cell? ⟨g, 1, none⟩ = some y := by
  refine ⟨?_, World.cell?_setCell_same _ _ _ (u := b) ?_⟩
  · rw [World.cell?_setCell_other _ _ _ _ (by simp)]; exact World.cell?_setCell_same _ _ _ h0
  · rw [World.cell?_setCell_other _ _ _ _ (by simp)]; exact h1
theorem FM.far {w : World} {M : Nat} {G : List (Nat × Nat)} (h : FM w M G) {p : Addr} (hp : M ≠ p.block) (u : Value) : FM (w.setCell p u) M G := ⟨h.1, h.2.setCell hp u⟩
theorem FM.made (w : World) : FM (w.alloc (.map #[] 0)) w.heap.size [] := ⟨(fun f hf => by cases hf), (World.ownsMap_made w Try.prog 45 bR).mono (Nat.zero_le _)⟩
theorem SIn.start (w : World) (p : Int) (o : Obj) (G : List (Nat × Nat)) (hG : G = []) (ty ty' : TypeId) :
    SIn w ((((w.alloc o).alloc (.cells #[.int .i64 0, .map none] ty)).alloc (.map #[] 0)).alloc (.cells #[.int .i64 p, .map (some (w.heap.size + 1 + 1))] ty')) p G := by
  subst hG
  refine ⟨by (repeat (first | exact Bel.refl _ | assumption | refine Bel.drew ?_ | refine Bel.drewN ?_ _ | refine Bel.alloc ?_ _ | refine Bel.setCell ?_ (by first | omega | (simp; done) | (simp; omega) | (simp at *; omega)) _ | refine Bel.trans ?_ (by assumption))), ?_, by go_simp, by go_simp, by go_simp, by go_simp, fun o => by go_simp, by simp⟩
  have h := FM.made ((w.alloc o).alloc (.cells #[.int .i64 0, .map none] ty))
  simp only [World.size_alloc] at h
  exact h.bel ((Bel.refl _).alloc _)

set_option maxRecDepth 100000 in
set_option maxHeartbeats 1000000 in
theorem shopOf_any (p : Int) (A : Option Addr) (n c : Nat) (G : List (Nat × Nat)) (w : World) (hR : Prs w A (up G)) (hn : G.length = n) (h60 : n ≤ 900) (hS : Small G) :
    Calls Try.prog 84 #[.agg #[.int .i64 p, .slice A n c]] w (ShopAt w p G) := by
  have hmm := @run_makeMap Try.prog
  have Hn := Lib.hid hn
  have HS := Lib.hid hS
  clear hn hS
  go_enter Try.func84, Try.ntmps84
  go_wp2
  go_loopw [13] (fun i wr => ∃ k : Nat, k ≤ n ∧ i = .int .i64 k ∧ SIn w wr p (G.take k)) (fun i _ => n - (intOf i).toNat)
  case atStart => exact ⟨0, Nat.zero_le _, rfl, SIn.start _ _ _ _ (by simp) _ _⟩
  case round =>
    clear hmm
    obtain ⟨k, hk, rfl, hs⟩ := hrel
    by_cases hlt : k < n
    · obtain ⟨b, o, x, y, rfl, hbl, hg, hc1, hc2⟩ := up_at (hR.bel hs.bel) (k := k) (by rw [Hn.out]; exact hlt)
      have hsm := HS.out (x, y) (List.mem_of_getElem? hg)
      obtain ⟨hx, hy⟩ := hsm
      simp only at hx hy
      have HX := Lib.hid hx; have HY := Lib.hid hy
      have HT := Lib.hid (take_at hg)
      have HLn := Lib.hid (show (G.take k).length < 1000 by rw [List.length_take]; have := Hn.out; omega)
      have HSI := Lib.hid hs
      obtain ⟨-, hfm, c0, c1, -, -, -, hsz⟩ := hs
      clear hg hx hy
      go_wp2_with (at_mapUpdate; go_loud (refine wpList_mapUpdate_own _ rfl _ _ _ 68 rfl 45 4 feudKeyed Try.underlying68 bR (w.heap.size + 1 + 1) 1000 (setOf yesD ((G.take k).map keyL)) rfl (hfm.2.alloc _) (by unfold maxLen; omega) _ _ (keyL (x, y)) rfl rfl (keyOf_feud x y HX.out HY.out) yesD [] (bR_mk true) ?_); intro w3 hown3 hgr3)
      have hS3 := HSI.out.put (f := (x, y)) ⟨HX.out, HY.out⟩ HLn.out hown3 hgr3
      clear hown3 hgr3 hfm c0 c1
      go_wp2
      go_roundw
      case rel => exact ⟨k + 1, by omega, by go_num, by rw [HT.out]; exact hS3⟩
      case measure => simp [intOf]; omega
    · obtain rfl : k = n := by omega
      have ht : G.take k = G := List.take_of_length_le (by rw [Hn.out]; omega)
      rw [ht] at hs
      have HSI := Lib.hid hs
      obtain ⟨-, -, c0, c1, r0, r1, rf, hsz⟩ := hs
      have rf0 := rf 0
      have rf1 := rf 1
      have hsz1 : w.heap.size + 1 < wr.heap.size := by omega
      have HR0 := Lib.hid r0; have HR1 := Lib.hid r1
      clear ht rf
      go_wp2
      obtain ⟨q0, q1⟩ := stored2 (x := .int .i64 p) (y := .map (some (w.heap.size + 1 + 1))) HR0.out HR1.out
      refine bodyPost_ret (v := .agg #[.int .i64 p, .map (some (w.heap.size + 1 + 1))]) (by simp [results, Try.results84, go_sem, q0, q1]) rfl ⟨_, rfl, ?_, ?_, by omega⟩
      · exact (HSI.out.fm.far (by simp) _).far (by simp) _
      · have := HSI.out.bel
        (repeat (first | exact Bel.refl _ | assumption | refine Bel.drew ?_ | refine Bel.drewN ?_ _ | refine Bel.alloc ?_ _ | refine Bel.setCell ?_ (by first | omega | (simp; done) | (simp; omega) | (simp at *; omega)) _ | refine Bel.trans ?_ (by assumption)))
end Go.Proofs.Ytcndmfkbfimllaa
