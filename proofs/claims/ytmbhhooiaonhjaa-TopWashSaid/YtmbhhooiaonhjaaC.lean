/- Slices of pairs that read as lists; which lots are valid; what is of at most a size. -/
import Derived.Test.YtmbhhooiaonhjaaA
namespace Go.Proofs.Ytmbhhooiaonhjaa
open Go.RowKit

/-- The slice at A reads as the pairs gs (two cells each). -/
def Prs (w : World) (A : Option Addr) (gs : List (Int × Int)) : Prop :=
  gs = [] ∨ ∃ b o, A = some ⟨b, o, none⟩ ∧ b < w.heap.size ∧ ∀ j s m, gs[j]? = some (s, m) → w.cell? ⟨b, o + j * 2, none⟩ = some (.int .i64 s) ∧ w.cell? ⟨b, o + j * 2 + 1, none⟩ = some (.int .i64 m)

theorem Prs.bel {w w' : World} {A : Option Addr} {gs : List (Int × Int)} (h : Prs w A gs) (hb : Bel w w') : Prs w' A gs := by
  rcases h with h | ⟨b, o, rfl, hl, hc⟩
  · exact .inl h
  · refine .inr ⟨b, o, rfl, Nat.lt_of_lt_of_le hl hb.use.2.2, fun j s m hj => ?_⟩
    rw [hb.use.1 _ _ hl, hb.use.1 _ _ hl]
    exact hc j s m hj
theorem Prs.at_ {w : World} {A : Option Addr} {gs : List (Int × Int)} (h : Prs w A gs) {k : Nat} (hk : k < gs.length) :
    ∃ b o s m, A = some ⟨b, o, none⟩ ∧ b < w.heap.size ∧ gs[k]? = some (s, m) ∧ w.cell? ⟨b, o + k * 2, none⟩ = some (.int .i64 s) ∧ w.cell? ⟨b, o + k * 2 + 1, none⟩ = some (.int .i64 m) := by
  rcases h with rfl | ⟨b, o, rfl, hl, hc⟩
  · simp at hk
  · have hg' : gs[k]? = some (gs[k].1, gs[k].2) := by rw [List.getElem?_eq_getElem hk]
    exact ⟨b, o, _, _, rfl, hl, hg', hc k _ _ hg'⟩
theorem drop_at {α : Type} {l : List α} {k : Nat} {x : α} (h : l[k]? = some x) : l.drop k = x :: l.drop (k + 1) := by
  obtain ⟨hk, rfl⟩ := List.getElem?_eq_some_iff.1 h
  rw [List.drop_eq_getElem_cons hk]
theorem take_at {α : Type} {l : List α} {k : Nat} {x : α} (h : l[k]? = some x) : l.take (k + 1) = l.take k ++ [x] := by
  obtain ⟨hk, rfl⟩ := List.getElem?_eq_some_iff.1 h
  rw [List.take_succ_eq_append_getElem hk]

/-- What is of at most a size. -/
def sumB (gs : List (Int × Int)) (size : Int) : Int := (gs.map fun g => if g.1 ≤ size then g.2 else 0).sum
theorem sumB_snoc (gs : List (Int × Int)) (s m size : Int) : sumB (gs ++ [(s, m)]) size = sumB gs size + if s ≤ size then m else 0 := by
  simp [sumB]
theorem sumB_bd {gs : List (Int × Int)} (size : Int) (h : ∀ g ∈ gs, 0 ≤ g.2 ∧ g.2 ≤ 100) : 0 ≤ sumB gs size ∧ sumB gs size ≤ 100 * gs.length := by
  induction gs with
  | nil => simp [sumB]
  | cons g r ih =>
    have h1 := ih fun x hx => h x (by simp [hx])
    have h2 := h g (by simp)
    have e : sumB (g :: r) size = (if g.1 ≤ size then g.2 else 0) + sumB r size := by simp [sumB]
    rw [e, List.length_cons]
    split <;> omega

theorem mem_take {α : Type} {l : List α} {P : α → Prop} (h : ∀ x ∈ l, P x) (k : Nat) : ∀ x ∈ l.take k, P x := fun x hx => h x (List.mem_of_mem_take hx)

/-- The pairs are strictly ascending from 'last' on, in their ranges. -/
def scan (last : Int) : List (Int × Int) → Bool
  | [] => true
  | g :: r => decide (last < g.1) && decide (g.1 ≤ 20) && decide (1 ≤ g.2) && decide (g.2 ≤ 100) && scan g.1 r
/-- What Validate answers: 0, 1 (ErrArg) or 3 (ErrLarge). -/
def errV (gs : List (Int × Int)) : Int := if 6 < gs.length then 3 else if scan 0 gs = true then 0 else 1
/-- What holds of a valid lot, element by element. -/
theorem scan_mem {last : Int} {gs : List (Int × Int)} (h : scan last gs = true) : ∀ g ∈ gs, last < g.1 ∧ g.1 ≤ 20 ∧ 1 ≤ g.2 ∧ g.2 ≤ 100 := by
  induction gs generalizing last with
  | nil => intro g hg; cases hg
  | cons x r ih =>
    simp only [scan, Bool.and_eq_true, decide_eq_true_eq] at h
    intro g hg
    rcases List.mem_cons.1 hg with rfl | hg
    · exact ⟨h.1.1.1.1, h.1.1.1.2, h.1.1.2, h.1.2⟩
    · have := ih h.2 g hg
      omega
def lastAt (gs : List (Int × Int)) (k : Nat) : Int := if k = 0 then 0 else ((gs[k - 1]?).getD (0, 0)).1
theorem scan_step {last s m : Int} {gs : List (Int × Int)} {k : Nat} (hg : gs[k]? = some (s, m)) :
    scan last (gs.drop k) = (decide (last < s) && decide (s ≤ 20) && decide (1 ≤ m) && decide (m ≤ 100) && scan s (gs.drop (k + 1))) := by
  rw [drop_at hg]; rfl

set_option maxHeartbeats 400000 in
theorem validate_any (A : Option Addr) (n c : Nat) (gs : List (Int × Int)) (w : World) (hR : Prs w A gs) (hn : gs.length = n) (hmax : n ≤ maxLen) :
    Calls Try.prog 27 #[.slice A n c] w fun e w' => e = .returned (.int .i64 (errV gs)) ∧ Bel w w' := by
  have Hn := Lib.hid hn; clear hn
  unfold maxLen at hmax
  by_cases h6 : 6 < n
  · have e : errV gs = 3 := by unfold errV; rw [if_pos (by rw [Hn.out]; exact h6)]
    rw [e]
    clear e
    go_enter Try.func27, Try.ntmps27
    go_wp2
    go_ret
    exact ⟨rfl, Bel.refl _⟩
  · have e : errV gs = if scan 0 gs = true then 0 else 1 := by unfold errV; rw [if_neg (by rw [Hn.out]; exact h6)]
    have HE := Lib.hid e
    clear e
    go_enter Try.func27, Try.ntmps27
    go_wp2
    go_loopw [3, 5, 11] (fun l _ i wr => ∃ (k : Nat) (last : Int), k ≤ n ∧ i = .int .i64 k ∧ l = .int .i64 last ∧ Bel w wr ∧ scan 0 gs = scan last (gs.drop k)) (fun _ _ i _ => n - (intOf i).toNat)
    case atStart => exact ⟨0, 0, Nat.zero_le _, rfl, rfl, Bel.refl _, rfl⟩
    case round =>
      obtain ⟨k, last, hk, rfl, rfl, hb, hs⟩ := hrel
      have HS := Lib.hid hs; clear hs
      by_cases hlt : k < n
      · obtain ⟨b, o, s, m, rfl, hbl, hg, hc1, hc2⟩ := (hR.bel hb).at_ (k := k) (by rw [Hn.out]; exact hlt)
        have HG := Lib.hid (scan_step (last := last) hg)
        clear hg
        by_cases hok : last < s ∧ s ≤ 20 ∧ 1 ≤ m ∧ m ≤ 100
        · obtain ⟨k1, k2, k3, k4⟩ := hok
          go_wp2
          go_roundw
          case rel => exact ⟨k + 1, s, by omega, by go_num, rfl, hb.alloc _, by rw [HS.out, HG.out]; simp [k1, k2, k3, k4]⟩
          case measure => simp [intOf]; omega
        · have HF : Hid (errV gs = 1) := by
            show errV gs = 1
            rw [HE.out, HS.out, HG.out, if_neg]
            simp
            intros
            omega
          go_wp2
          all_goals (go_ret; exact ⟨ret_int (by rw [HF.out]), hb.alloc _⟩)
      · obtain rfl : k = n := by omega
        have HF : Hid (errV gs = 0) := by
          show errV gs = 0
          rw [HE.out, HS.out, List.drop_of_length_le (by rw [Hn.out]; omega)]
          rfl
        go_wp2
        go_ret
        exact ⟨ret_int (by rw [HF.out]), hb⟩
end Go.Proofs.Ytmbhhooiaonhjaa

