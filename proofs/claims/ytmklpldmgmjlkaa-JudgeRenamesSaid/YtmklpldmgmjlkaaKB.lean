/- Records: slices of answers that read as lists; which are valid; what is against each grade. -/
import Derived.Test.YtmklpldmgmjlkaaKR
import Derived.Deep.OwnRows
namespace Go.Proofs.Ytmklpldmgmjlkaa
open Go.RowKit

/-- What an answer named, and what it said. -/
abbrev An := List Int × Bool
/-- The slice at A reads as the answers L. -/
def Ans (w : World) (A : Option Addr) (L : List An) : Prop :=
  L = [] ∨ ∃ b o, A = some ⟨b, o, none⟩ ∧ b < w.heap.size ∧ ∀ (j : Nat) (ns : List Int) (y : Bool), L[j]? = some (ns, y) →
    ∃ A' n' c', w.cell? ⟨b, o + j * 2, none⟩ = some (.slice A' n' c') ∧ w.cell? ⟨b, o + j * 2 + 1, none⟩ = some (.bool y) ∧ Ints w A' ns ∧ ns.length = n' ∧ n' ≤ maxLen
theorem Ans.bel {w w' : World} {A : Option Addr} {L : List An} (h : Ans w A L) (hb : Bel w w') : Ans w' A L := by
  rcases h with h | ⟨b, o, rfl, hl, hc⟩
  · exact .inl h
  · refine .inr ⟨b, o, rfl, Nat.lt_of_lt_of_le hl hb.use.2.2, fun j ns y hj => ?_⟩
    obtain ⟨A', n', c', h1, h2, h3, h4, h5⟩ := hc j ns y hj
    exact ⟨A', n', c', by rw [hb.use.1 _ _ hl]; exact h1, by rw [hb.use.1 _ _ hl]; exact h2, h3.bel hb, h4, h5⟩
theorem Ans.at_ {w : World} {A : Option Addr} {L : List An} (h : Ans w A L) {k : Nat} (hk : k < L.length) :
    ∃ b o ns y A' n' c', A = some ⟨b, o, none⟩ ∧ b < w.heap.size ∧ L[k]? = some (ns, y) ∧ w.cell? ⟨b, o + k * 2, none⟩ = some (.slice A' n' c') ∧ w.cell? ⟨b, o + k * 2 + 1, none⟩ = some (.bool y) ∧ Ints w A' ns ∧ ns.length = n' ∧ n' ≤ maxLen := by
  rcases h with rfl | ⟨b, o, rfl, hl, hc⟩
  · simp at hk
  · have hg' : L[k]? = some (L[k].1, L[k].2) := by rw [List.getElem?_eq_getElem hk]
    obtain ⟨A', n', c', h1, h2, h3, h4, h5⟩ := hc k _ _ hg'
    exact ⟨b, o, _, _, A', n', c', rfl, hl, hg', h1, h2, h3, h4, h5⟩
/-- All that was named are sets of grades. -/
def setsB (g : Int) (L : List An) : Bool := L.all fun a => setB a.1 g
theorem setsB_step {g : Int} {ns : List Int} {y : Bool} {L : List An} {k : Nat} (hg : L[k]? = some (ns, y)) : setsB g (L.drop k) = (setB ns g && setsB g (L.drop (k + 1))) := by
  rw [drop_at hg]; rfl
def errA (g : Int) (L : List An) : Int := if 1 ≤ g ∧ g ≤ 16 then if 12 < L.length then 3 else if setsB g L = true then 0 else 1 else 1
theorem errA_zero {g : Int} {L : List An} (h : errA g L = 0) : (1 ≤ g ∧ g ≤ 16) ∧ L.length ≤ 12 ∧ setsB g L = true := by
  unfold errA at h
  split at h
  · rename_i h1
    split at h
    · omega
    · split at h
      · exact ⟨h1, by omega, by assumption⟩
      · omega
  · omega
theorem box_an {w : World} {A : Option Addr} {n c : Nat} {y : Bool} {ty : TypeId} {w' : World} (h : Bel (w.alloc (.cells #[.slice A n c, .bool y] ty)) w') : w'.cell? ⟨w.heap.size, 0, none⟩ = some (.slice A n c) ∧ w'.cell? ⟨w.heap.size, 1, none⟩ = some (.bool y) := by
  refine ⟨?_, ?_⟩ <;> (rw [h.use.1 _ _ (by simp)]; go_simp)

set_option maxHeartbeats 1000000 in
theorem validate_any (g : Int) (A : Option Addr) (n c : Nat) (L : List An) (w : World) (hR : Ans w A L) (hn : L.length = n) (hmax : n ≤ maxLen) :
    Calls Try.prog 21 #[.int .i64 g, .slice A n c] w fun e w' => e = .returned (.int .i64 (errA g L)) ∧ Bel w w' := by
  have Hn := Lib.hid hn
  have hm : (n : Int) ≤ 9223372036854775807 := by unfold maxLen at hmax; omega
  clear hn hmax
  by_cases hg : 1 ≤ g ∧ g ≤ 16
  · obtain ⟨g1, g2⟩ := hg
    by_cases h12 : 12 < n
    · have HE : Hid (errA g L = 3) := by show errA g L = 3; unfold errA; rw [if_pos ⟨g1, g2⟩, if_pos (by rw [Hn.out]; exact h12)]
      go_enter Try.func21, Try.ntmps21
      go_wp2
      go_ret
      exact ⟨ret_int HE.out.symm, Bel.refl _⟩
    · have HE : Hid (errA g L = if setsB g L = true then 0 else 1) := by show errA g L = _; unfold errA; rw [if_pos ⟨g1, g2⟩, if_neg (by rw [Hn.out]; exact h12)]
      go_enter Try.func21, Try.ntmps21
      go_wp2
      go_loopw [18] (fun i wr => ∃ k : Nat, k ≤ n ∧ i = .int .i64 k ∧ Bel w wr ∧ setsB g (L.drop k) = setsB g L) (fun i _ => n - (intOf i).toNat)
      case atStart => exact ⟨0, Nat.zero_le _, rfl, Bel.refl _, rfl⟩
      case round =>
        obtain ⟨k, hk, rfl, hb, hs⟩ := hrel
        have HS := Lib.hid hs
        clear hs
        by_cases hlt : k < n
        · obtain ⟨b, o, ns, y, A', n', c', rfl, hbl, hgk, hc1, hc2, hI, hn', hm'⟩ := (hR.bel hb).at_ (k := k) (by rw [Hn.out]; exact hlt)
          have HG := Lib.hid (setsB_step (g := g) hgk)
          have HN' := Lib.hid hn'; have HM' := Lib.hid hm'
          clear hgk hn' hm'
          go_wp2_with fail
          refine (isSet_any A' n' c' ns g _ (hI.bel (by (repeat (first | exact Bel.refl _ | assumption | refine Bel.drew ?_ | refine Bel.drewN ?_ _ | refine Bel.alloc ?_ _ | refine Bel.setCell ?_ (by first | omega | (simp; done) | (simp; omega) | (simp at *; omega)) _ | refine Bel.trans ?_ (by assumption))))) HN'.out HM'.out).mono ?_
          rintro e w1 ⟨rfl, rfl⟩
          cases hss : setB ns g
          · have HF : Hid (errA g L = 1) := by show errA g L = 1; rw [HE.out, ← HS.out, HG.out, hss]; rfl
            clear hss
            go_wp2
            go_ret
            exact ⟨ret_int HF.out.symm, by (repeat (first | exact Bel.refl _ | assumption | refine Bel.drew ?_ | refine Bel.drewN ?_ _ | refine Bel.alloc ?_ _ | refine Bel.setCell ?_ (by first | omega | (simp; done) | (simp; omega) | (simp at *; omega)) _ | refine Bel.trans ?_ (by assumption)))⟩
          · have HF : Hid (setsB g (L.drop (k + 1)) = setsB g L) := by show _ = _; rw [← HS.out, HG.out, hss]; simp
            clear hss
            go_wp2
            go_roundw
            case rel => exact ⟨k + 1, by omega, by go_num, by (repeat (first | exact Bel.refl _ | assumption | refine Bel.drew ?_ | refine Bel.drewN ?_ _ | refine Bel.alloc ?_ _ | refine Bel.setCell ?_ (by first | omega | (simp; done) | (simp; omega) | (simp at *; omega)) _ | refine Bel.trans ?_ (by assumption))), HF.out⟩
            case measure => simp [intOf]; omega
        · obtain rfl : k = n := by omega
          have HF : Hid (errA g L = 0) := by show errA g L = 0; rw [HE.out, ← HS.out, List.drop_of_length_le (by rw [Hn.out]; omega)]; rfl
          go_wp2
          go_ret
          exact ⟨ret_int HF.out.symm, hb⟩
  · have HE : Hid (errA g L = 1) := by show errA g L = 1; unfold errA; rw [if_neg hg]
    rcases (by omega : g < 1 ∨ 16 < g) with h1 | h1
    · go_enter Try.func21, Try.ntmps21
      go_wp2
      go_ret
      exact ⟨ret_int HE.out.symm, Bel.refl _⟩
    · have h2 : 1 ≤ g := by omega
      go_enter Try.func21, Try.ntmps21
      go_wp2
      go_ret
      exact ⟨ret_int HE.out.symm, Bel.refl _⟩

/-- Is an answer against a grade? -/
def ag (a : An) (g : Int) : Bool := a.2 != hasB a.1 g
theorem isAgainst_any (A : Option Addr) (n c : Nat) (ns : List Int) (y : Bool) (g : Int) (w : World) (hR : Ints w A ns) (hn : ns.length = n) (hmax : n ≤ maxLen) :
    Calls Try.prog 38 #[.agg #[.slice A n c, .bool y], .int .i64 g] w fun e w' => e = .returned (.bool (ag (ns, y) g)) ∧ Bel w w' := by
  go_enter Try.func38, Try.ntmps38
  go_wp2
  go_quiet ((go_at_call 36; exact Calls.quiet_of_same ((contains_any A n c ns g _ (hR.bel (by (repeat (first | exact Bel.refl _ | assumption | refine Bel.drew ?_ | refine Bel.drewN ?_ _ | refine Bel.alloc ?_ _ | refine Bel.setCell ?_ (by first | omega | (simp; done) | (simp; omega) | (simp at *; omega)) _ | refine Bel.trans ?_ (by assumption))))) hn hmax).mono fun _ _ h => ⟨h.1, h.2.symm⟩)))
  go_wp2
  go_ret
  exact ⟨rfl, by (repeat (first | exact Bel.refl _ | assumption | refine Bel.drew ?_ | refine Bel.drewN ?_ _ | refine Bel.alloc ?_ _ | refine Bel.setCell ?_ (by first | omega | (simp; done) | (simp; omega) | (simp at *; omega)) _ | refine Bel.trans ?_ (by assumption)))⟩

/-- How many answers are against a grade. -/
def cntI (L : List An) (i : Nat) : Int := ((L.filter fun a => ag a (i : Int)).length : Nat)
theorem cntI_snoc (L : List An) (a : An) (i : Nat) : cntI (L ++ [a]) i = cntI L i + if ag a (i : Int) = true then 1 else 0 := by
  unfold cntI
  rw [List.filter_append]
  by_cases h : ag a (i : Int) = true <;> simp [h]
theorem cntI_bd (L : List An) (i : Nat) : 0 ≤ cntI L i ∧ cntI L i ≤ L.length := by
  unfold cntI
  have := List.length_filter_le (fun a => ag a (i : Int)) L
  omega
/-- While the answers are counted. -/
def agF (L : List An) (k j i : Nat) : Int := if i < k then cntI L i else if i = k then cntI (L.take j) i else 0
theorem agF_start (L : List An) (i : Nat) : agF L 0 0 i = 0 := by unfold agF; rw [if_neg (by omega)]; split <;> simp [cntI]
theorem agF_round {L : List An} {n : Nat} (hn : L.length = n) (k i : Nat) : agF L (k + 1) 0 i = agF L k n i := by
  unfold agF
  rcases (by omega : i < k ∨ i = k ∨ k < i) with h | h | h
  · rw [if_pos (by omega), if_pos h]
  · subst h
    rw [if_pos (by omega), if_neg (by omega), if_pos rfl, List.take_of_length_le (by omega)]
  · rw [if_neg (by omega), if_neg (show ¬ i < k by omega), if_neg (show ¬ i = k by omega)]
    split
    · simp [cntI]
    · rfl
theorem agF_at (L : List An) (k j : Nat) : agF L k j k = cntI (L.take j) k := by unfold agF; rw [if_neg (by omega), if_pos rfl]
theorem agF_step {L : List An} {k j : Nat} {a : An} (ha : L[j]? = some a) (i : Nat) : agF L k (j + 1) i = if i = k then agF L k j k + (if ag a (k : Int) = true then 1 else 0) else agF L k j i := by
  by_cases h : i = k
  · subst h
    rw [if_pos rfl, agF_at, agF_at, take_at ha, cntI_snoc]
  · rw [if_neg h]
    unfold agF
    by_cases h2 : i < k
    · rw [if_pos h2, if_pos h2]
    · rw [if_neg h2, if_neg h, if_neg h2, if_neg h]
theorem agF_end {L : List An} {g i : Nat} (h : i < g) : cntI L i = agF L g 0 i := by unfold agF; rw [if_pos h]
/-- The counts, in a block of the call's own. -/
def Counts (w : World) (g : Nat) (L : List An) (e : Ending) (w' : World) : Prop :=
  ∃ b, e = .returned (.slice (some ⟨b, 0, none⟩) g g) ∧ w.heap.size ≤ b ∧ Bel w w' ∧ Row w' b g g (cntI L)

set_option maxRecDepth 100000 in
set_option maxHeartbeats 2000000 in
theorem against_any (g : Nat) (A : Option Addr) (n c : Nat) (L : List An) (w : World) (hR : Ans w A L) (hn : L.length = n) (h12 : n ≤ 12) (hg : g ≤ 16) :
    Calls Try.prog 25 #[.int .i64 (g : Int), .slice A n c] w (Counts w g L) := by
  have Hn := Lib.hid hn
  have hmk : ∀ W : World, (Instr.makeSlice 23 (.int .i64 (g : Int)) (.int .i64 (g : Int))).run Try.prog W = .ok (.slice (some ⟨W.heap.size, 0, none⟩) g g) (W.alloc (.cells (madeCells #[.int .i64 0] g) 3)) :=
    fun W => run_make_row' 23 3 (.int .i64 0) 8 Try.underlying23 infoInt rfl .i64 .i64 g (by first | omega | (unfold maxLen; omega)) (by first | omega | (unfold maxLen; omega)) W
  have hrow : Row (w.alloc (.cells (madeCells #[.int .i64 0] g) 3)) w.heap.size g g (agF L 0 0) := Row.whole _ _ _ _ _ fun i hi => by rw [agF_start]; exact made_int g i hi
  have hb0 : Bel w (w.alloc (.cells (madeCells #[.int .i64 0] g) 3)) := by (repeat (first | exact Bel.refl _ | assumption | refine Bel.drew ?_ | refine Bel.drewN ?_ _ | refine Bel.alloc ?_ _ | refine Bel.setCell ?_ (by first | omega | (simp; done) | (simp; omega) | (simp at *; omega)) _ | refine Bel.trans ?_ (by assumption)))
  generalize madeCells #[.int .i64 0] g = C at *
  clear hn
  have hgi : (g : Int) ≤ 16 := by omega
  go_enter Try.func25, Try.ntmps25
  go_wp2
  go_loopw [12] (fun i wr => ∃ k : Nat, k ≤ g ∧ i = .int .i64 k ∧ Bel w wr ∧ Row wr w.heap.size g g (agF L k 0)) (fun i _ => g - (intOf i).toNat)
  case atStart => exact ⟨0, Nat.zero_le _, rfl, hb0, hrow⟩
  case round =>
    clear hrow hb0 hmk
    obtain ⟨k, hk, rfl, hb, hr⟩ := hrel
    by_cases hlt : k < g
    · have hkg : (k : Int) < (g : Int) := by omega
      go_wp2
      obtain ⟨wo, hwo⟩ : ∃ wo : World, wo = wr := ⟨_, rfl⟩
      subst hwo
      go_loopw [17] (fun i wr => ∃ m : Nat, m ≤ n ∧ i = .int .i64 m ∧ Bel w wr ∧ Row wr w.heap.size g g (agF L k m)) (fun i _ => n - (intOf i).toNat)
      case atStart => exact ⟨0, Nat.zero_le _, rfl, hb, hr⟩
      case round =>
        clear hb hr
        obtain ⟨m, hm, rfl, hb, hr⟩ := hrel
        by_cases hlm : m < n
        · obtain ⟨b, o, ns, y, A', n', c', rfl, hbl, hgk, hc1, hc2, hI, hn', hm'⟩ := (hR.bel hb).at_ (k := m) (by rw [Hn.out]; exact hlm)
          have HN' := Lib.hid hn'; have HM' := Lib.hid hm'
          have hmn : (m : Int) < (n : Int) := by omega
          have HS := Lib.hid (fun i => agF_step (k := k) hgk i)
          clear hgk hn' hm'
          go_wp2_with fail
          refine (isAgainst_any A' n' c' ns y k _ (hI.bel (by (repeat (first | exact Bel.refl _ | assumption | refine Bel.drew ?_ | refine Bel.drewN ?_ _ | refine Bel.alloc ?_ _ | refine Bel.setCell ?_ (by first | omega | (simp; done) | (simp; omega) | (simp at *; omega)) _ | refine Bel.trans ?_ (by assumption))))) HN'.out HM'.out).mono ?_
          rintro e w1 ⟨rfl, hb1⟩
          have hbw : Bel wr w1 := by (repeat (first | exact Bel.refl _ | assumption | refine Bel.drew ?_ | refine Bel.drewN ?_ _ | refine Bel.alloc ?_ _ | refine Bel.setCell ?_ (by first | omega | (simp; done) | (simp; omega) | (simp at *; omega)) _ | refine Bel.trans ?_ (by assumption)))
          have hr1 := hr.bel hbw
          have hb2 := hb.trans hbw
          clear hb1 hr hb hI hc1 hc2
          cases ha : ag (ns, y) k
          · have HQ : Hid (∀ i, agF L k (m + 1) i = agF L k m i) := fun i => by
              rw [HS.out i, ha]
              by_cases h : i = k
              · subst h; simp
              · rw [if_neg h]
            clear ha
            go_wp2
            go_roundw
            case rel => exact ⟨m + 1, by omega, by go_num, hb2, hr1.congr (fun i _ => HQ.out i)⟩
            case measure => simp [intOf]; omega
          · obtain ⟨v, hv⟩ : ∃ v, v = agF L k m k := ⟨_, rfl⟩
            have hvb : 0 ≤ v ∧ v ≤ 12 := by
              have h1 := cntI_bd (L.take m) k
              have h2 := List.length_take_le' m L
              have h3 := Hn.out
              rw [hv, agF_at]
              omega
            obtain ⟨v0, v1⟩ := hvb
            have HQ : Hid (∀ i, agF L k (m + 1) i = if i = k then v + 1 else agF L k m i) := fun i => by
              rw [HS.out i, ha, hv]
              rfl
            have hcell := hr1.cells k hlt
            rw [← hv] at hcell
            have hfz := hr1.fz k
            have hlt1 := hr1.lt
            clear ha hv
            go_wp2
            go_roundw
            case rel => exact ⟨m + 1, by omega, by go_num, by (repeat (first | exact Bel.refl _ | assumption | refine Bel.drew ?_ | refine Bel.drewN ?_ _ | refine Bel.alloc ?_ _ | refine Bel.setCell ?_ (by first | omega | (simp; done) | (simp; omega) | (simp at *; omega)) _ | refine Bel.trans ?_ (by assumption))), (hr1.put hlt (v + 1)).congr (fun i _ => HQ.out i)⟩
            case measure => simp [intOf]; omega
        · obtain rfl : m = n := by omega
          have HC := Lib.hid (fun i => agF_round Hn.out k i)
          go_wp2
          go_roundw
          case rel => exact ⟨k + 1, by omega, by go_num, hb, hr.congr (fun i _ => HC.out i)⟩
          case measure => simp [intOf]; omega
    · obtain rfl : k = g := by omega
      go_wp2
      go_ret
      exact ⟨w.heap.size, rfl, Nat.le_refl _, hb, hr.congr (fun i hi => agF_end hi)⟩
end Go.Proofs.Ytmklpldmgmjlkaa

