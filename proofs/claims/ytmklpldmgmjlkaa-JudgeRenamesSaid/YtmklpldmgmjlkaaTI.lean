/- Rename of the program. -/
import Derived.Test.YtmklpldmgmjlkaaTH
import Derived.Test.YtmklpldmgmjlkaaTD
namespace Go.Proofs.Ytmklpldmgmjlkaa
open Go.RowKit

/-- Rename's error. -/
def errN (g : Int) (L : List An) (to : List Int) : Int := if errA g L = 0 then (if Renum g.toNat to then 0 else 1) else errA g L
theorem errN_parts {g : Int} {L : List An} {to : List Int} (h : errN g L to = 0) : errA g L = 0 ∧ ∃ k : Nat, g = (k : Int) ∧ Renum k to := by
  unfold errN at h
  by_cases h0 : errA g L = 0
  · rw [if_pos h0] at h
    obtain ⟨⟨h1, h2⟩, -, -⟩ := errA_zero h0
    refine ⟨h0, g.toNat, by omega, ?_⟩
    split at h
    · assumption
    · cases h
  · rw [if_neg h0] at h
    exact absurd h h0
theorem errN_no {g : Int} {L : List An} {to : List Int} (h : errN g L to ≠ 0) (h0 : errA g L = 0) : errN g L to = 1 ∧ ∃ k : Nat, g = (k : Int) ∧ ¬ Renum k to := by
  obtain ⟨⟨h1, h2⟩, -, -⟩ := errA_zero h0
  unfold errN at h ⊢
  rw [if_pos h0] at h ⊢
  by_cases hR : Renum g.toNat to
  · rw [if_pos hR] at h
    exact absurd rfl h
  · rw [if_neg hR]
    exact ⟨rfl, g.toNat, by omega, hR⟩
set_option maxRecDepth 100000 in
set_option maxHeartbeats 4000000 in
theorem rename_ok (g : Nat) (A : Option Addr) (n c : Nat) (L : List An) (B : Option Addr) (d : Nat) (to : List Int) (w : World) (hR : Ans w A L) (hn : L.length = n) (he : errA (g : Int) L = 0) (hJ : Ints w B to) (hN : Renum g to) :
    Calls Try.prog 12 #[.int .i64 (g : Int), .slice A n c, .slice B g d] w fun e w' => ∃ h, e = .returned (.tuple #[.slice (some ⟨h, 0, none⟩) n n, .int .i64 0]) ∧ HeadZ w.heap.size w' h n n (renL to g L) ∧ Bel w w' := by
  obtain ⟨⟨g1, g2⟩, h12, -⟩ := errA_zero he
  have hg16 : g ≤ 16 := by omega
  have hn12 : n ≤ 12 := by omega
  obtain ⟨C, hC, hmk⟩ := make_any (P := Try.prog) 22 30 infoAns Try.underlying22 n (by omega) (by omega)
  have Hn := Lib.hid hn; have HE := Lib.hid he; have HN := Lib.hid hN
  have HSE := Lib.hid (errA_sets he)
  have HD := Lib.hid (decide_eq_true hN)
  clear hn he h12 hN
  go_enter Try.func12, Try.ntmps12
  go_wp2_with fail
  refine (validate_any g A n c L _ hR Hn.out (by unfold maxLen; omega)).mono ?_
  rintro e w1 ⟨rfl, hb1⟩
  rw [HE.out]
  go_wp2_with fail
  refine (hasEachOnce_any B g d g to _ (hJ.bel hb1) HN.out.len (by unfold maxLen; omega)).mono ?_
  rintro e w2 ⟨rfl, rfl⟩
  rw [HD.out]
  have hs1 := hb1.size
  have hz : HeadZ w.heap.size (w1.alloc (.cells C 30)) w1.heap.size n 0 (renL to g L) := ⟨by simp, hs1, fun i => by simp, fun i hi => by
    obtain ⟨v, hv⟩ := hC i hi
    exact ⟨v, by rw [World.cell?_alloc_new]; exact hv⟩, fun j ns y hj => by omega⟩
  clear hC
  go_wp2
  go_loopw [10, 11, 27] (fun _ _ i wr => ∃ k : Nat, k ≤ n ∧ i = .int .i64 k ∧ Bel w wr ∧ HeadZ w.heap.size wr w1.heap.size n k (renL to g L)) (fun _ _ i _ => n - (intOf i).toNat)
  case atStart => exact ⟨0, Nat.zero_le _, rfl, hb1.alloc _, hz⟩
  case round =>
    clear hz hmk
    obtain ⟨k, hk, rfl, hb, hz⟩ := hrel
    by_cases hlt : k < n
    · obtain ⟨a1, a2, ns, y, A', n', c', rfl, hbl, hg, hc1, hc2, hI, hl', hm'⟩ := (hR.bel hb).at_ (k := k) (by rw [Hn.out]; exact hlt)
      have hset : setB ns (g : Int) = true := HSE.out (ns, y) (List.mem_of_getElem? hg)
      have HT := Lib.hid (renL_at (to := to) (g := g) hg)
      have HL := Lib.hid hl'; have HSET := Lib.hid hset
      have hn16 : n' ≤ 1000 := by
        have h1 := lotsF_len (hitB to ns) g
        have h2 := congrArg List.length (mapL_sort HN.out hset)
        rw [List.length_mergeSort, mapL_len, hl'] at h2
        have h3 : (imgL to g ns).length ≤ g := h1
        omega
      have hkn : (k : Int) < (n : Int) := by omega
      have hk0 : (0 : Int) ≤ (k : Int) := by omega
      have hhl := hz.lt
      have hJw := hJ.bel hb
      obtain ⟨wo, hwo⟩ : ∃ wo : World, wo = wr := ⟨_, rfl⟩
      subst hwo
      have held : ∀ w', Bel (wo.alloc (.cells #[.slice A' n' c', .bool y] 30)) w' → w'.cell? ⟨wo.heap.size, 0, none⟩ = some (.slice A' n' c') ∧ w'.cell? ⟨wo.heap.size, 1, none⟩ = some (.bool y) ∧ (∃ v, w'.cell? ⟨w1.heap.size, k * 2, none⟩ = some v) ∧ (∃ v, w'.cell? ⟨w1.heap.size, k * 2 + 1, none⟩ = some v) ∧ w'.frozen? ⟨w1.heap.size, k * 2, none⟩ = false ∧ w'.frozen? ⟨w1.heap.size, k * 2 + 1, none⟩ = false := fun w' h => by
        have hz' := (hz.bel ((Bel.refl wo).alloc _)).bel h
        exact ⟨(box_an h).1, (box_an h).2, hz'.all _ (by omega), hz'.all _ (by omega), hz'.fz _, hz'.fz _⟩
      have Held := Lib.hid held
      clear hg hl' held hset
      go_wp2
      obtain ⟨f1, f2, ⟨f3, f4⟩, ⟨f5, f6⟩, f7, f8⟩ := Held.out _ (Bel.refl _)
      go_region_with ((go_at_call 23; refine (renamed_any A' _ n' c' g d ns to _ (hI.bel (by (repeat (first | exact Bel.refl _ | assumption | refine Bel.drew ?_ | refine Bel.drewN ?_ _ | refine Bel.alloc ?_ _ | refine Bel.setCell ?_ (by first | omega | (simp; done) | (simp; omega) | (simp at *; omega)) _ | refine Bel.trans ?_ (by assumption))))) HL.out (hJw.bel (by (repeat (first | exact Bel.refl _ | assumption | refine Bel.drew ?_ | refine Bel.drewN ?_ _ | refine Bel.alloc ?_ _ | refine Bel.setCell ?_ (by first | omega | (simp; done) | (simp; omega) | (simp at *; omega)) _ | refine Bel.trans ?_ (by assumption))))) HN.out HSET.out hn16).mono ?_; rintro e w5 ⟨v5, rfl, hO5, hb5⟩; obtain ⟨A5, n5, c5, rfl, hn5, hI5⟩ := hO5.form; have hfar5 := Lib.hid (own1_far hO5); obtain ⟨q1, q2, ⟨q3, q4⟩, ⟨q5, q6⟩, q7, q8⟩ := Held.out w5 (by (repeat (first | exact Bel.refl _ | assumption | refine Bel.drew ?_ | refine Bel.drewN ?_ _ | refine Bel.alloc ?_ _ | refine Bel.setCell ?_ (by first | omega | (simp; done) | (simp; omega) | (simp at *; omega)) _ | refine Bel.trans ?_ (by assumption))))))
      all_goals
        have hb6 : Bel wo w5 := by (repeat (first | exact Bel.refl _ | assumption | refine Bel.drew ?_ | refine Bel.drewN ?_ _ | refine Bel.alloc ?_ _ | refine Bel.setCell ?_ (by first | omega | (simp; done) | (simp; omega) | (simp at *; omega)) _ | refine Bel.trans ?_ (by assumption)))
        have hso := hb.size
        have hol : (imgL to g ns).length ≤ g := lotsF_len _ _
        go_wp2
        go_roundw
        case rel =>
          exact ⟨k + 1, by omega, by go_num, ((hb.trans hb6).setCell hs1 _).setCell hs1 _, (hz.bel hb6).set hlt HT.out hI5 rfl (by unfold maxLen; omega) (fun b o e => by
            obtain ⟨r1, r2, r3⟩ := hfar5.out b o e
            simp at r1
            exact ⟨by omega, r2, by omega, r3⟩)⟩
        case measure => simp [intOf]; omega
    · obtain rfl : k = n := by omega
      go_wp2
      go_ret2
      exact ⟨w1.heap.size, rfl, hz, hb⟩
set_option maxRecDepth 100000 in
set_option maxHeartbeats 1000000 in
theorem rename_err (g : Int) (A : Option Addr) (n c : Nat) (L : List An) (B : Option Addr) (q d : Nat) (to : List Int) (w : World) (hR : Ans w A L) (hn : L.length = n) (hmax : n ≤ maxLen) (hJ : Ints w B to) (hq : to.length = q) (hqx : q ≤ maxLen) (he : errN g L to ≠ 0) :
    Calls Try.prog 12 #[.int .i64 g, .slice A n c, .slice B q d] w fun e w' => e = .returned (.tuple #[.slice none 0 0, .int .i64 (errN g L to)]) ∧ Bel w w' := by
  have Hn := Lib.hid hn; have Hq := Lib.hid hq
  by_cases h0 : errA g L = 0
  · obtain ⟨h1, k, rfl, hR'⟩ := errN_no he h0
    have HE := Lib.hid h0
    have HD := Lib.hid (decide_eq_false hR')
    rw [h1]
    clear h1 he h0 hR' hn hq
    go_enter Try.func12, Try.ntmps12
    go_wp2_with fail
    refine (validate_any _ A n c L _ hR Hn.out hmax).mono ?_
    rintro e w1 ⟨rfl, hb1⟩
    rw [HE.out]
    go_wp2_with fail
    refine (hasEachOnce_any B q d k to _ (hJ.bel hb1) Hq.out hqx).mono ?_
    rintro e w2 ⟨rfl, rfl⟩
    rw [HD.out]
    go_wp2
    go_ret2
    exact ⟨rfl, hb1⟩
  · have h1 : errN g L to = errA g L := by unfold errN; rw [if_neg h0]
    rw [h1]
    have hne : (errA g L != 0) = true := by simpa using h0
    clear h1 he h0 hn hq
    go_enter Try.func12, Try.ntmps12
    go_wp2_with fail
    refine (validate_any g A n c L _ hR Hn.out hmax).mono ?_
    rintro e w1 ⟨rfl, hb1⟩
    go_wp2
    go_ret2
    exact ⟨rfl, hb1⟩
end Go.Proofs.Ytmklpldmgmjlkaa
