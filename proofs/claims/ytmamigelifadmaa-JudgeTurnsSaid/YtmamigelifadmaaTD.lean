/- The program's Turn. -/
import Derived.Test.YtmamigelifadmaaTC
import Derived.Deep.RegionWith
namespace Go.Proofs.Ytmamigelifadmaa
open Go.RowKit

theorem infoAns : (Try.prog.info? 31).map (fun i => (i.zero.isSome, i.size, i.bytes)) = some (true, 2, 32) := by kernel_rfl
/-- Block h has n answers, and the first k of them are those of T; all of it lies from 'base' on, the lists apart from the block. -/
structure HeadZ (base : Nat) (w : World) (h n k : Nat) (T : List An) : Prop where
  lt : h < w.heap.size
  low : base ≤ h
  fz : ∀ i, w.frozen? ⟨h, i, none⟩ = false
  all : ∀ i, i < n * 2 → ∃ v, w.cell? ⟨h, i, none⟩ = some v
  els : ∀ (j : Nat) (ns : List Int) (y : Bool), j < k → T[j]? = some (ns, y) → ∃ A' n' c', w.cell? ⟨h, j * 2, none⟩ = some (.slice A' n' c') ∧ w.cell? ⟨h, j * 2 + 1, none⟩ = some (.bool y) ∧ Ints w A' ns ∧ ns.length = n' ∧ n' ≤ maxLen ∧
    ∀ b o, A' = some ⟨b, o, none⟩ → base ≤ b ∧ b < w.heap.size ∧ b ≠ h ∧ ∀ i, w.frozen? ⟨b, i, none⟩ = false
theorem HeadZ.bel {base h n k : Nat} {w w' : World} {T : List An} (z : HeadZ base w h n k T) (hb : Bel w w') : HeadZ base w' h n k T := by
  refine ⟨Nat.lt_of_lt_of_le z.lt hb.size, z.low, fun i => by rw [hb.use.2.1 _ _ z.lt]; exact z.fz i, fun i hi => by rw [hb.use.1 _ _ z.lt]; exact z.all i hi, fun j ns y hj hT => ?_⟩
  obtain ⟨A', n', c', h1, h2, h3, h4, h5, h6⟩ := z.els j ns y hj hT
  refine ⟨A', n', c', by rw [hb.use.1 _ _ z.lt]; exact h1, by rw [hb.use.1 _ _ z.lt]; exact h2, h3.bel hb, h4, h5, fun b o e => ?_⟩
  obtain ⟨q1, q2, q3, q4⟩ := h6 b o e
  exact ⟨q1, Nat.lt_of_lt_of_le q2 hb.size, q3, fun i => by rw [hb.use.2.1 _ _ q2]; exact q4 i⟩
theorem Ints.far {w : World} {A : Option Addr} {ns : List Int} (h : Ints w A ns) {p : Addr} (hne : ∀ b o, A = some ⟨b, o, none⟩ → b ≠ p.block) (u : Value) : Ints (w.setCell p u) A ns := by
  rcases h with h | ⟨b, o, rfl, hl, hc⟩
  · exact .inl h
  · refine .inr ⟨b, o, rfl, by simpa [World.setCell] using hl, fun j v hj => ?_⟩
    have hne' := hne b o rfl
    rw [World.cell?_setCell_other _ _ _ _ (fun e => hne' (by have := congrArg Addr.block e; first | exact this | exact this.symm))]
    exact hc j v hj
theorem HeadZ.set {base h n k : Nat} {w : World} {T : List An} {ns : List Int} {y : Bool} {A' : Option Addr} {n' c' : Nat} (z : HeadZ base w h n k T) (hk : k < n) (hT : T[k]? = some (ns, y)) (hI : Ints w A' ns) (hl : ns.length = n') (hm : n' ≤ maxLen)
    (hA : ∀ b o, A' = some ⟨b, o, none⟩ → base ≤ b ∧ b < w.heap.size ∧ b ≠ h ∧ ∀ i, w.frozen? ⟨b, i, none⟩ = false) :
    HeadZ base ((w.setCell ⟨h, k * 2, none⟩ (.slice A' n' c')).setCell ⟨h, k * 2 + 1, none⟩ (.bool y)) h n (k + 1) T := by
  obtain ⟨v0, hv0⟩ := z.all (k * 2) (by omega)
  obtain ⟨v1, hv1⟩ := z.all (k * 2 + 1) (by omega)
  have far : ∀ i, i ≠ k * 2 → i ≠ k * 2 + 1 → ((w.setCell ⟨h, k * 2, none⟩ (.slice A' n' c')).setCell ⟨h, k * 2 + 1, none⟩ (.bool y)).cell? ⟨h, i, none⟩ = w.cell? ⟨h, i, none⟩ := fun i h1 h2 => by
    rw [World.cell?_setCell_other _ _ _ _ (by simp <;> omega), World.cell?_setCell_other _ _ _ _ (by simp <;> omega)]
  have e0 : ((w.setCell ⟨h, k * 2, none⟩ (.slice A' n' c')).setCell ⟨h, k * 2 + 1, none⟩ (.bool y)).cell? ⟨h, k * 2, none⟩ = some (.slice A' n' c') := by
    rw [World.cell?_setCell_other _ _ _ _ (by simp)]
    exact World.cell?_setCell_same _ _ _ hv0
  have e1 : ((w.setCell ⟨h, k * 2, none⟩ (.slice A' n' c')).setCell ⟨h, k * 2 + 1, none⟩ (.bool y)).cell? ⟨h, k * 2 + 1, none⟩ = some (.bool y) :=
    World.cell?_setCell_same _ _ _ (by rw [World.cell?_setCell_other _ _ _ _ (by simp)]; exact hv1)
  refine ⟨by simpa [World.setCell] using z.lt, z.low, fun i => by rw [World.frozen?_setCell, World.frozen?_setCell]; exact z.fz i, fun i hi => ?_, fun j ms u hj hTj => ?_⟩
  · by_cases h1 : i = k * 2
    · subst h1; exact ⟨_, e0⟩
    · by_cases h2 : i = k * 2 + 1
      · subst h2; exact ⟨_, e1⟩
      · rw [far i h1 h2]; exact z.all i hi
  · by_cases hjk : j = k
    · subst hjk
      rw [hT] at hTj
      injection hTj with hTj
      injection hTj with t1 t2
      subst t1 t2
      exact ⟨A', n', c', e0, e1, (hI.far (fun b o e => (hA b o e).2.2.1) _).far (fun b o e => (hA b o e).2.2.1) _, hl, hm, fun b o e => by
        obtain ⟨q1, q2, q3, q4⟩ := hA b o e
        exact ⟨q1, by simpa [World.setCell] using q2, q3, fun i => by rw [World.frozen?_setCell, World.frozen?_setCell]; exact q4 i⟩⟩
    · obtain ⟨A2, n2, c2, h1, h2, h3, h4, h5, h6⟩ := z.els j ms u (by omega) hTj
      exact ⟨A2, n2, c2, by rw [far _ (by omega) (by omega)]; exact h1, by rw [far _ (by omega) (by omega)]; exact h2, (h3.far (fun b o e => (h6 b o e).2.2.1) _).far (fun b o e => (h6 b o e).2.2.1) _, h4, h5, fun b o e => by
        obtain ⟨q1, q2, q3, q4⟩ := h6 b o e
        exact ⟨q1, by simpa [World.setCell] using q2, q3, fun i => by rw [World.frozen?_setCell, World.frozen?_setCell]; exact q4 i⟩⟩
theorem HeadZ.ans {base h n : Nat} {w : World} {T : List An} (z : HeadZ base w h n n T) (hn : T.length = n) : Ans w (some ⟨h, 0, none⟩) T := by
  refine .inr ⟨h, 0, rfl, z.lt, fun j ns y hj => ?_⟩
  have hjn : j < n := by rw [← hn]; exact (List.getElem?_eq_some_iff.1 hj).1
  obtain ⟨A', n', c', h1, h2, h3, h4, h5, -⟩ := z.els j ns y hjn hj
  exact ⟨A', n', c', by rw [Nat.zero_add]; exact h1, by rw [Nat.zero_add]; exact h2, h3, h4, h5⟩

theorem own1_far {e base : Nat} {w : World} {A : Option Addr} {n c : Nat} {l : List Int} (h : Own1 e base w (.slice A n c) l) : ∀ b o, A = some ⟨b, o, none⟩ → base ≤ b ∧ b < w.heap.size ∧ ∀ i, w.frozen? ⟨b, i, none⟩ = false := by
  intro b o hA
  subst hA
  have hlt := World.ownsRow.lt h b rfl
  have ho : o = 0 := by
    rcases h.2 with ⟨h', _⟩ | ⟨g', cap', cur, h', _⟩
    · simp at h'
    · simp only [Value.slice.injEq, Option.some.injEq, Addr.mk.injEq, and_true] at h'
      exact h'.1.2
  subst ho
  have hn : n = l.length := by
    obtain ⟨A', n', c', e, h1, -⟩ := h.form
    injection e with e1 e2 e3
    omega
  subst hn
  exact ⟨hlt.1, hlt.2, fun i => World.ownsRow.frozenAt h i⟩

set_option maxRecDepth 100000 in
theorem wTurn_err (g : Int) (A : Option Addr) (n c : Nat) (L : List An) (w : World) (hR : Ans w A L) (hn : L.length = n) (hmax : n ≤ maxLen) (he : errA g L ≠ 0) :
    Calls Try.prog 15 #[.slice A n c, .int .i64 g] w fun e w' => e = .returned (.tuple #[.slice none 0 0, .int .i64 (errA g L)]) ∧ Bel w w' := by
  have hne : (errA g L != 0) = true := by simpa using he
  clear he
  go_enter Try.func15, Try.ntmps15
  go_wp2_with fail
  refine (validate_any g A n c L _ hR hn hmax).mono ?_
  rintro e w1 ⟨rfl, hb1⟩
  go_wp2
  go_ret2
  exact ⟨rfl, hb1⟩

set_option maxRecDepth 100000 in
set_option maxHeartbeats 4000000 in
theorem wTurn_ok (g : Nat) (A : Option Addr) (n c : Nat) (L : List An) (w : World) (hR : Ans w A L) (hn : L.length = n) (he : errA (g : Int) L = 0) :
    Calls Try.prog 15 #[.slice A n c, .int .i64 (g : Int)] w fun e w' => ∃ h, e = .returned (.tuple #[.slice (some ⟨h, 0, none⟩) n n, .int .i64 0]) ∧ HeadZ w.heap.size w' h n n (turnL g L) ∧ Bel w w' := by
  obtain ⟨⟨g1, g2⟩, h12, -⟩ := errA_zero he
  have hg16 : g ≤ 16 := by omega
  have hn12 : n ≤ 12 := by omega
  obtain ⟨C, hC, hmk⟩ := make_any (P := Try.prog) 22 31 infoAns Try.underlying22 n (by omega) (by omega)
  have Hn := Lib.hid hn; have HE := Lib.hid he
  clear hn he h12
  go_enter Try.func15, Try.ntmps15
  go_wp2_with fail
  refine (validate_any g A n c L _ hR Hn.out (by unfold maxLen; omega)).mono ?_
  rintro e w1 ⟨rfl, hb1⟩
  rw [HE.out]
  have hs1 := hb1.size
  have hz : HeadZ w.heap.size (w1.alloc (.cells C 31)) w1.heap.size n 0 (turnL g L) := ⟨by simp, hs1, fun i => by simp, fun i hi => by
    obtain ⟨v, hv⟩ := hC i hi
    exact ⟨v, by rw [World.cell?_alloc_new]; exact hv⟩, fun j ns y hj => by omega⟩
  clear hC
  go_wp2
  go_loopw [8, 9, 21] (fun _ _ i wr => ∃ k : Nat, k ≤ n ∧ i = .int .i64 k ∧ Bel w wr ∧ HeadZ w.heap.size wr w1.heap.size n k (turnL g L)) (fun _ _ i _ => n - (intOf i).toNat)
  case atStart => exact ⟨0, Nat.zero_le _, rfl, hb1.alloc _, hz⟩
  case round =>
    clear hz hmk
    obtain ⟨k, hk, rfl, hb, hz⟩ := hrel
    by_cases hlt : k < n
    · obtain ⟨a1, a2, ns, y, A', n', c', rfl, hbl, hg, hc1, hc2, hI, hl', hm'⟩ := (hR.bel hb).at_ (k := k) (by rw [Hn.out]; exact hlt)
      have HT := Lib.hid (turnL_at (g := g) hg)
      have HL := Lib.hid hl'
      have hkn : (k : Int) < (n : Int) := by omega
      have hk0 : (0 : Int) ≤ (k : Int) := by omega
      have hhl := hz.lt
      obtain ⟨wo, hwo⟩ : ∃ wo : World, wo = wr := ⟨_, rfl⟩
      subst hwo
      have held : ∀ w', Bel (wo.alloc (.cells #[.slice A' n' c', .bool y] 31)) w' → w'.cell? ⟨wo.heap.size, 0, none⟩ = some (.slice A' n' c') ∧ w'.cell? ⟨wo.heap.size, 1, none⟩ = some (.bool y) ∧ (∃ v, w'.cell? ⟨w1.heap.size, k * 2, none⟩ = some v) ∧ (∃ v, w'.cell? ⟨w1.heap.size, k * 2 + 1, none⟩ = some v) ∧ w'.frozen? ⟨w1.heap.size, k * 2, none⟩ = false ∧ w'.frozen? ⟨w1.heap.size, k * 2 + 1, none⟩ = false := fun w' h => by
        have hz' := (hz.bel ((Bel.refl wo).alloc _)).bel h
        exact ⟨(box_an h).1, (box_an h).2, hz'.all _ (by omega), hz'.all _ (by omega), hz'.fz _, hz'.fz _⟩
      have Held := Lib.hid held
      clear hg hl' held
      go_wp2
      obtain ⟨f1, f2, ⟨f3, f4⟩, ⟨f5, f6⟩, f7, f8⟩ := Held.out _ (Bel.refl _)
      go_region_with ((go_at_call 28; refine (others_any A' n' c' ns g _ (hI.bel (by (repeat (first | exact Bel.refl _ | assumption | refine Bel.drew ?_ | refine Bel.drewN ?_ _ | refine Bel.alloc ?_ _ | refine Bel.setCell ?_ (by first | omega | (simp; done) | (simp; omega) | (simp at *; omega)) _ | refine Bel.trans ?_ (by assumption))))) HL.out hm' hg16).mono ?_; rintro e w5 ⟨v5, rfl, hO5, hb5⟩; obtain ⟨A5, n5, c5, rfl, hn5, hI5⟩ := hO5.form; have hfar5 := Lib.hid (own1_far hO5); obtain ⟨q1, q2, ⟨q3, q4⟩, ⟨q5, q6⟩, q7, q8⟩ := Held.out w5 (by (repeat (first | exact Bel.refl _ | assumption | refine Bel.drew ?_ | refine Bel.drewN ?_ _ | refine Bel.alloc ?_ _ | refine Bel.setCell ?_ (by first | omega | (simp; done) | (simp; omega) | (simp at *; omega)) _ | refine Bel.trans ?_ (by assumption))))))
      all_goals
        have hb6 : Bel wo w5 := by (repeat (first | exact Bel.refl _ | assumption | refine Bel.drew ?_ | refine Bel.drewN ?_ _ | refine Bel.alloc ?_ _ | refine Bel.setCell ?_ (by first | omega | (simp; done) | (simp; omega) | (simp at *; omega)) _ | refine Bel.trans ?_ (by assumption)))
        have hso := hb.size
        have hol := othersL_len ns g
        go_wp2
        go_roundw
        case rel =>
          exact ⟨k + 1, by omega, by go_num, ((hb.trans hb6).setCell hs1 _).setCell hs1 _, (hz.bel hb6).set hlt HT.out hI5 rfl (by unfold maxLen; omega) (fun b o e => by
            obtain ⟨r1, r2, r3⟩ := hfar5.out b o e
            simp at r1
            exact ⟨by omega, r2, by omega, r3⟩)⟩
        case measure => simp [intOf]; omega
    · obtain rfl : k = n := by omega
      go_wp2
      go_ret2
      exact ⟨_, rfl, hz, hb⟩
end Go.Proofs.Ytmamigelifadmaa
