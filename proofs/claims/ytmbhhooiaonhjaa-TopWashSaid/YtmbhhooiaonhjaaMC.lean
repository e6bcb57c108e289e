/- Moves: which are right, and what they leave. -/
import Derived.Test.YtmbhhooiaonhjaaMB
import Derived.Test.YtmbhhooiaonhjaaBA
namespace Go.Proofs.Ytmbhhooiaonhjaa
open Go.RowKit

def moveOk (v : Int × Int × Int) : Bool := decide (1 ≤ v.2.1) && decide (v.2.1 < v.1) && decide (v.1 ≤ 20) && decide (1 ≤ v.2.2) && decide (v.2.2 ≤ 100)
def movV (ms : List (Int × Int × Int)) : Int := if 12 < ms.length then 3 else if ms.all moveOk then 0 else 1
theorem moveOk_iff {f t m : Int} : moveOk (f, t, m) = true ↔ 1 ≤ t ∧ t < f ∧ f ≤ 20 ∧ 1 ≤ m ∧ m ≤ 100 := by
  simp [moveOk, Bool.and_eq_true, decide_eq_true_eq, and_assoc]
theorem movV_zero {ms : List (Int × Int × Int)} (h : movV ms = 0) : ms.length ≤ 12 ∧ ∀ v ∈ ms, moveOk v = true := by
  unfold movV at h
  split at h
  · omega
  · split at h
    · rename_i h1 h2
      exact ⟨by omega, fun v hv => List.all_eq_true.1 h2 v hv⟩
    · omega
theorem all_step {ms : List (Int × Int × Int)} {k : Nat} {v : Int × Int × Int} (h : ms[k]? = some v) : (ms.drop k).all moveOk = (moveOk v && (ms.drop (k + 1)).all moveOk) := by rw [drop_at h, List.all_cons]
/-- The masses after one move. -/
def stepF (F : Nat → Int) (f t m : Int) : Nat → Int := fun i => (if f = (i : Int) then F i - m else F i) + (if t = (i : Int) then m else 0)
def grindF (F : Nat → Int) : List (Int × Int × Int) → Option (Nat → Int)
  | [] => some F
  | (f, t, m) :: r => if F f.toNat < m then none else grindF (stepF F f t m) r
/-- What a function of the sizes is while moves go on. -/
def GoodF (F : Nat → Int) (M : Int) : Prop := (∀ i, 0 ≤ F i ∧ F i ≤ M) ∧ F 0 = 0
theorem GoodF.step {F : Nat → Int} {M : Int} (h : GoodF F M) {f t m : Int} (hv : moveOk (f, t, m) = true) (hs : ¬ F f.toNat < m) : GoodF (stepF F f t m) (M + 100) := by
  obtain ⟨h1, h2, h3, h4, h5⟩ := moveOk_iff.1 hv
  refine ⟨fun i => ?_, ?_⟩
  · have a := h.1 i
    unfold stepF
    by_cases e : f = (i : Int)
    · have : f.toNat = i := by omega
      rw [this] at hs
      rw [if_pos e, if_neg (by omega)]
      omega
    · rw [if_neg e]
      split <;> omega
  · have a := h.2
    unfold stepF
    rw [if_neg (by omega), if_neg (by omega), a]
    rfl
theorem goodF_lot {gs : List (Int × Int)} (h : errV gs = 0) : GoodF (massF gs) 600 := by
  have l := (errV_zero h).1
  refine ⟨fun i => ?_, massF_zero (fit_of gs h)⟩
  have := massF_bd i (fit_of gs h).mass
  omega

theorem stepF_sum {F : Nat → Int} {f t m : Int} (hv : moveOk (f, t, m) = true) (k : Nat) : sumTo (stepF F f t m) k = sumTo F k - (if f < (k : Int) then m else 0) + (if t < (k : Int) then m else 0) := by
  obtain ⟨h1, h2, h3, h4, h5⟩ := moveOk_iff.1 hv
  induction k with
  | zero => rw [if_neg (by omega), if_neg (by omega)]; simp [sumTo]
  | succ k ih =>
    simp only [sumTo, ih]
    unfold stepF
    have e : ((k + 1 : Nat) : Int) = (k : Int) + 1 := by omega
    rw [e]
    by_cases a : f = (k : Int)
    · rw [if_neg (show ¬ f < (k : Int) by omega), if_pos a, if_pos (show f < (k : Int) + 1 by omega), if_pos (show t < (k : Int) by omega), if_neg (show ¬ t = (k : Int) by omega), if_pos (show t < (k : Int) + 1 by omega)]
      omega
    · rw [if_neg a]
      by_cases b : t = (k : Int)
      · rw [if_pos b, if_neg (show ¬ t < (k : Int) by omega), if_pos (show t < (k : Int) + 1 by omega), if_neg (show ¬ f < (k : Int) by omega), if_neg (show ¬ f < (k : Int) + 1 by omega)]
        omega
      · rw [if_neg b]
        by_cases c : f < (k : Int)
        · rw [if_pos c, if_pos (show f < (k : Int) + 1 by omega), if_pos (show t < (k : Int) by omega), if_pos (show t < (k : Int) + 1 by omega)]
          omega
        · rw [if_neg c, if_neg (show ¬ f < (k : Int) + 1 by omega)]
          by_cases d : t < (k : Int)
          · rw [if_pos d, if_pos (show t < (k : Int) + 1 by omega)]
            omega
          · rw [if_neg d, if_neg (show ¬ t < (k : Int) + 1 by omega)]
            omega
/-- Moves make finer, and keep the mass. -/
theorem grindF_sum {F G : Nat → Int} {ms : List (Int × Int × Int)} (h : grindF F ms = some G) (hv : ∀ v ∈ ms, moveOk v = true) (k : Nat) : sumTo F k ≤ sumTo G k ∧ (21 ≤ k → sumTo F k = sumTo G k) := by
  induction ms generalizing F with
  | nil =>
    unfold grindF at h
    injection h with h
    subst h
    exact ⟨Int.le_refl _, fun _ => rfl⟩
  | cons v r ih =>
    obtain ⟨f, t, m⟩ := v
    unfold grindF at h
    split at h
    · cases h
    · have a := ih h fun x hx => hv x (by simp [hx])
      have b := stepF_sum (F := F) (hv (f, t, m) (by simp)) k
      obtain ⟨h1, h2, h3, h4, h5⟩ := moveOk_iff.1 (hv (f, t, m) (by simp))
      rw [b] at a
      constructor
      · have := a.1
        by_cases c : f < (k : Int)
        · rw [if_pos c, if_pos (by omega)] at this; omega
        · rw [if_neg c] at this
          split at this <;> omega
      · intro hk
        have := a.2 hk
        rw [if_pos (by omega), if_pos (by omega)] at this
        omega
theorem sumB_sumTo {l : List (Int × Int)} (h : Fit l) {G : Nat → Int} (hG : ∀ i, i < 21 → massF l i = G i) {k : Nat} (hk : k < 21) : sumB l k = sumTo G (k + 1) := by
  induction k with
  | zero =>
    have := hG 0 (by omega)
    rw [massF_zero h] at this
    rw [sumB_low h (by simp)]
    simp only [sumTo]
    omega
  | succ k ih =>
    have a := ih (by omega)
    have c := sumB_step l (k + 1)
    have e : ((k + 1 : Nat) : Int) - 1 = (k : Int) := by omega
    rw [e] at c
    have b := hG (k + 1) hk
    rw [c, a, b]
    rfl
/-- What is ground is finer. -/
theorem grind_fin {gs : List (Int × Int)} {G : Nat → Int} {ms : List (Int × Int × Int)} (h1 : errV gs = 0) (h2 : errV (lotF G) = 0) (h : grindF (massF gs) ms = some G) (hv : ∀ v ∈ ms, moveOk v = true) : finV (lotF G) gs = (true, 0) := by
  have f1 := fit_of gs h1
  have f2 := fit_of _ h2
  have key : ∀ k : Nat, k < 21 → sumB gs k = sumTo (massF gs) (k + 1) ∧ sumB (lotF G) k = sumTo G (k + 1) := fun k hk => ⟨sumB_sumTo f1 (fun _ _ => rfl) hk, sumB_sumTo f2 (fun i hi => massF_lotF G hi) hk⟩
  have hm : sumM (lotF G) = sumM gs := by
    rw [← sumB_all f1, ← sumB_all f2]
    have a := key 20 (by omega)
    have b : sumTo (massF gs) (20 + 1) = sumTo G (20 + 1) := (grindF_sum h hv 21).2 (by omega)
    have e : ((20 : Nat) : Int) = 20 := rfl
    rw [e] at a
    omega
  have he : errF (lotF G) gs = 0 := by
    have hb : errB (lotF G) gs = 0 := by unfold errB; rw [if_pos h2, h1]
    unfold errF
    rw [if_pos hb, if_pos hm]
  unfold finV
  rw [if_pos he, finB_true fun i hi => ?_]
  obtain ⟨a, b⟩ := key i hi
  have := (grindF_sum h hv (i + 1)).1
  omega

/-- Grind's answer. -/
def GrindAns (w : World) (gs : List (Int × Int)) (ms : List (Int × Int × Int)) (e : Ending) (w' : World) : Prop :=
  (errV gs ≠ 0 ∧ e = .returned (.tuple #[.slice none 0 0, .int .i64 (errV gs)]) ∧ Bel w w') ∨
  (errV gs = 0 ∧ movV ms ≠ 0 ∧ e = .returned (.tuple #[.slice none 0 0, .int .i64 (movV ms)]) ∧ Bel w w') ∨
  (errV gs = 0 ∧ movV ms = 0 ∧ grindF (massF gs) ms = none ∧ e = .returned (.tuple #[.slice none 0 0, .int .i64 9]) ∧ Bel w w') ∨
  (errV gs = 0 ∧ movV ms = 0 ∧ ∃ G, grindF (massF gs) ms = some G ∧ LotAns w (lotF G) e w')
theorem grindF_short {F : Nat → Int} {ms : List (Int × Int × Int)} {k : Nat} {f t m : Int} (h : ms[k]? = some (f, t, m)) (hs : F f.toNat < m) : grindF F (ms.drop k) = none := by
  rw [drop_at h]; unfold grindF; rw [if_pos hs]
theorem grindF_step {F : Nat → Int} {ms : List (Int × Int × Int)} {k : Nat} {f t m : Int} (h : ms[k]? = some (f, t, m)) (hs : ¬ F f.toNat < m) : grindF F (ms.drop k) = grindF (stepF F f t m) (ms.drop (k + 1)) := by
  rw [drop_at h]; conv => lhs; unfold grindF
  rw [if_neg hs]

set_option maxHeartbeats 1000000 in
theorem vmoves_any (A : Option Addr) (n c : Nat) (ms : List (Int × Int × Int)) (w : World) (hR : Trs w A ms) (hn : ms.length = n) (hmax : n ≤ maxLen) :
    Calls Try.prog 52 #[.slice A n c] w fun e w' => e = .returned (.int .i64 (movV ms)) ∧ Bel w w' := by
  have Hn := Lib.hid hn; clear hn
  unfold maxLen at hmax
  by_cases h6 : 12 < n
  · have e : movV ms = 3 := by unfold movV; rw [if_pos (by rw [Hn.out]; exact h6)]
    rw [e]
    clear e
    go_enter Try.func52, Try.ntmps52
    go_wp2
    go_ret
    exact ⟨rfl, Bel.refl _⟩
  · have e : movV ms = if ms.all moveOk = true then 0 else 1 := by unfold movV; rw [if_neg (by rw [Hn.out]; exact h6)]
    have HE := Lib.hid e
    clear e
    go_enter Try.func52, Try.ntmps52
    go_wp2
    go_loopw [4, 10] (fun _ i wr => ∃ (k : Nat), k ≤ n ∧ i = .int .i64 k ∧ Bel w wr ∧ ms.all moveOk = (ms.drop k).all moveOk) (fun _ i _ => n - (intOf i).toNat)
    case atStart => exact ⟨0, Nat.zero_le _, rfl, Bel.refl _, rfl⟩
    case round =>
      obtain ⟨k, hk, rfl, hb, hs⟩ := hrel
      have HS := Lib.hid hs; clear hs
      by_cases hlt : k < n
      · obtain ⟨b, o, f, t, m, rfl, hbl, hg, hc1, hc2, hc3⟩ := (hR.bel hb).at_ (k := k) (by rw [Hn.out]; exact hlt)
        have HG := Lib.hid (all_step hg)
        clear hg
        by_cases hok : moveOk (f, t, m) = true
        · obtain ⟨k1, k2, k3, k4, k5⟩ := moveOk_iff.1 hok
          have HO := Lib.hid hok; clear hok
          go_wp2
          go_roundw
          case rel => exact ⟨k + 1, by omega, by go_num, hb.alloc _, by rw [HS.out, HG.out, HO.out, Bool.true_and]⟩
          case measure => simp [intOf]; omega
        · have HF : Hid (movV ms = 1) := by
            show movV ms = 1
            rw [HE.out, HS.out, HG.out, Bool.eq_false_iff.2 hok, Bool.false_and]
            rfl
          rw [moveOk_iff] at hok
          go_wp2
          all_goals (go_ret; exact ⟨ret_int (by rw [HF.out]), hb.alloc _⟩)
      · obtain rfl : k = n := by omega
        have HF : Hid (movV ms = 0) := by
          show movV ms = 0
          rw [HE.out, HS.out, List.drop_of_length_le (by rw [Hn.out]; omega)]
          rfl
        go_wp2
        go_ret
        exact ⟨ret_int (by rw [HF.out]), hb⟩
end Go.Proofs.Ytmbhhooiaonhjaa

