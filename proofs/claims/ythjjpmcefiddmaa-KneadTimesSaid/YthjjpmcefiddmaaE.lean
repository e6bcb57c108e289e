/- Plain: where a place goes by a fold and by a word, and from where it comes; a dough folded and unfolded. -/
import Derived.Test.YthjjpmcefiddmaaB
namespace Go.Proofs.Ythjjpmcefiddmaa
open Go.RowKit

/-- Where a place goes by a fold of 2 * h lumps (k = 1: the in fold). -/
def goN (h k p : Nat) : Nat := if p < h then 2 * p + k else 2 * (p - h) + 1 - k
/-- From where the lump at a place comes by a fold. -/
def unN (h k q : Nat) : Nat := if q % 2 = k then q / 2 else h + q / 2
theorem goN_lt {h k p : Nat} (hk : k ≤ 1) (hp : p < 2 * h) : goN h k p < 2 * h := by
  unfold goN; split <;> omega
theorem unN_lt {h k q : Nat} (hq : q < 2 * h) : unN h k q < 2 * h := by
  unfold unN; split <;> omega
theorem un_go {h k p : Nat} (hk : k ≤ 1) (_hp : p < 2 * h) : unN h k (goN h k p) = p := by
  unfold unN goN
  by_cases h1 : p < h
  · rw [if_pos h1, if_pos (by omega)]; omega
  · rw [if_neg h1, if_neg (by omega)]; omega
theorem go_un {h k q : Nat} (hk : k ≤ 1) (hq : q < 2 * h) : goN h k (unN h k q) = q := by
  unfold unN goN
  by_cases h1 : q % 2 = k
  · rw [if_pos h1, if_pos (by omega)]; omega
  · rw [if_neg h1, if_neg (by omega)]; omega
/-- A word of folds. -/
def WordOK (ws : List Int) : Prop := ∀ v ∈ ws, v = 0 ∨ v = 1
theorem WordOK.nat {ws : List Int} (h : WordOK ws) {v : Int} (hv : v ∈ ws) : v.toNat ≤ 1 ∧ v = (v.toNat : Int) := by
  rcases h v hv with rfl | rfl <;> decide
theorem WordOK.take {ws : List Int} (h : WordOK ws) (k : Nat) : WordOK (ws.take k) := fun v hv => h v (List.mem_of_mem_take hv)
theorem WordOK.drop {ws : List Int} (h : WordOK ws) (k : Nat) : WordOK (ws.drop k) := fun v hv => h v (List.mem_of_mem_drop hv)
theorem WordOK.app {v w : List Int} (h : WordOK v) (k : WordOK w) : WordOK (v ++ w) := fun x hx => by
  rcases List.mem_append.1 hx with a | a
  · exact h x a
  · exact k x a
/-- Where a place goes by a word, and from where it comes. -/
def goW (h : Nat) (ws : List Int) (p : Nat) : Nat := ws.foldl (fun p v => goN h v.toNat p) p
def unW (h : Nat) (ws : List Int) (q : Nat) : Nat := ws.foldr (fun v q => unN h v.toNat q) q
theorem goW_app (h : Nat) (v w : List Int) (p : Nat) : goW h (v ++ w) p = goW h w (goW h v p) := by simp [goW]
theorem unW_app (h : Nat) (v w : List Int) (p : Nat) : unW h (v ++ w) p = unW h v (unW h w p) := by simp [unW]
theorem goW_nil (h p : Nat) : goW h [] p = p := rfl
theorem unW_nil (h p : Nat) : unW h [] p = p := rfl
theorem goW_cons (h : Nat) (v : Int) (w : List Int) (p : Nat) : goW h (v :: w) p = goW h w (goN h v.toNat p) := rfl
theorem unW_cons (h : Nat) (v : Int) (w : List Int) (p : Nat) : unW h (v :: w) p = unN h v.toNat (unW h w p) := rfl
theorem goW_lt {h : Nat} {ws : List Int} (hw : WordOK ws) {p : Nat} (hp : p < 2 * h) : goW h ws p < 2 * h := by
  induction ws generalizing p with
  | nil => exact hp
  | cons v r ih => exact ih (fun u hu => hw u (List.mem_cons_of_mem _ hu)) (goN_lt (hw.nat List.mem_cons_self).1 hp)
theorem unW_lt {h : Nat} (ws : List Int) {p : Nat} (hp : p < 2 * h) : unW h ws p < 2 * h := by
  induction ws with
  | nil => exact hp
  | cons v r ih => exact unN_lt ih
theorem un_goW {h : Nat} {ws : List Int} (hw : WordOK ws) {p : Nat} (hp : p < 2 * h) : unW h ws (goW h ws p) = p := by
  induction ws generalizing p with
  | nil => rfl
  | cons v r ih =>
    have hk := (hw.nat (v := v) List.mem_cons_self).1
    rw [goW_cons, unW_cons, ih (fun u hu => hw u (List.mem_cons_of_mem _ hu)) (goN_lt hk hp), un_go hk hp]
theorem go_unW {h : Nat} {ws : List Int} (hw : WordOK ws) {q : Nat} (hq : q < 2 * h) : goW h ws (unW h ws q) = q := by
  induction ws with
  | nil => rfl
  | cons v r ih =>
    have hk := (hw.nat (v := v) List.mem_cons_self).1
    rw [unW_cons, goW_cons, go_un hk (unW_lt r hq)]
    exact ih (fun u hu => hw u (List.mem_cons_of_mem _ hu))
/-- A list by a function of its places. -/
def byF (h : Nat) (g : Nat → Nat) (l : List Int) : List Int := (List.range (2 * h)).map fun q => l.getD (g q) 0
theorem byF_len (h : Nat) (g : Nat → Nat) (l : List Int) : (byF h g l).length = 2 * h := by simp [byF]
theorem byF_at {h : Nat} {g : Nat → Nat} {l : List Int} {q : Nat} (hq : q < 2 * h) : (byF h g l).getD q 0 = l.getD (g q) 0 := by
  unfold byF
  rw [List.getD_eq_getElem?_getD, List.getElem?_map, List.getElem?_range hq]
  rfl
theorem byF_get {h : Nat} {g : Nat → Nat} {l : List Int} {q : Nat} (hq : q < 2 * h) : (byF h g l)[q]? = some (l.getD (g q) 0) := by
  unfold byF
  rw [List.getElem?_map, List.getElem?_range hq]
  rfl
theorem byF_congr {h : Nat} {g g' : Nat → Nat} {l l' : List Int} (e : ∀ q, q < 2 * h → l.getD (g q) 0 = l'.getD (g' q) 0) : byF h g l = byF h g' l' := by
  unfold byF
  refine List.map_congr_left fun q hq => e q (List.mem_range.1 hq)
theorem byF_by {h : Nat} {f g : Nat → Nat} {l : List Int} (hf : ∀ q, q < 2 * h → f q < 2 * h) : byF h f (byF h g l) = byF h (fun q => g (f q)) l :=
  byF_congr fun q hq => by rw [byF_at (hf q hq)]
theorem byF_id {h : Nat} {g : Nat → Nat} {l : List Int} (hl : l.length = 2 * h) (e : ∀ q, q < 2 * h → g q = q) : byF h g l = l := by
  refine List.ext_getElem? fun q => ?_
  by_cases hq : q < 2 * h
  · rw [byF_get hq, e q hq, List.getD_eq_getElem?_getD, List.getElem?_eq_getElem (by omega)]
    rfl
  · rw [List.getElem?_eq_none (by rw [byF_len]; omega), List.getElem?_eq_none (by omega)]
/-- A dough after a word, and before it. -/
def foldL (h : Nat) (ws : List Int) (l : List Int) : List Int := byF h (unW h ws) l
def unfL (h : Nat) (ws : List Int) (l : List Int) : List Int := byF h (goW h ws) l
theorem foldL_len (h : Nat) (ws l : List Int) : (foldL h ws l).length = 2 * h := byF_len _ _ _
theorem unfL_len (h : Nat) (ws l : List Int) : (unfL h ws l).length = 2 * h := byF_len _ _ _
theorem foldL_nil {h : Nat} {l : List Int} (hl : l.length = 2 * h) : foldL h [] l = l := byF_id hl fun _ _ => rfl
theorem unfL_nil {h : Nat} {l : List Int} (hl : l.length = 2 * h) : unfL h [] l = l := byF_id hl fun _ _ => rfl
theorem foldL_app (h : Nat) (v w l : List Int) : foldL h (v ++ w) l = foldL h w (foldL h v l) := by
  unfold foldL
  rw [byF_by (fun q hq => unW_lt w hq)]
  exact byF_congr fun q _ => by rw [unW_app]
theorem unfL_app {h : Nat} {v w l : List Int} (hv : WordOK v) : unfL h (v ++ w) l = unfL h v (unfL h w l) := by
  unfold unfL
  rw [byF_by (fun q hq => goW_lt hv hq)]
  exact byF_congr fun q _ => by rw [goW_app]
theorem unf_fold {h : Nat} {ws l : List Int} (hw : WordOK ws) (hl : l.length = 2 * h) : unfL h ws (foldL h ws l) = l := by
  unfold unfL foldL
  rw [byF_by (fun q hq => goW_lt hw hq)]
  exact byF_id hl fun q hq => un_goW hw hq
theorem fold_unf {h : Nat} {ws l : List Int} (hw : WordOK ws) (hl : l.length = 2 * h) : foldL h ws (unfL h ws l) = l := by
  unfold unfL foldL
  rw [byF_by (fun q hq => unW_lt ws hq)]
  exact byF_id hl fun q hq => go_unW hw hq
/-- The numbers of the places. -/
def numL (n : Nat) : List Int := (List.range n).map fun (i : Nat) => (i : Int)
theorem numL_len (n : Nat) : (numL n).length = n := by simp [numL]
theorem numL_at {n i : Nat} (hi : i < n) : (numL n).getD i 0 = (i : Int) := by
  unfold numL
  rw [List.getD_eq_getElem?_getD, List.getElem?_map, List.getElem?_range hi]
  rfl
theorem numL_get {n i : Nat} (hi : i < n) : (numL n)[i]? = some (i : Int) := by
  unfold numL
  rw [List.getElem?_map, List.getElem?_range hi]
  rfl
theorem fold_num (h : Nat) (ws : List Int) {q : Nat} (hq : q < 2 * h) : (foldL h ws (numL (2 * h)))[q]? = some ((unW h ws q : Nat) : Int) := by
  unfold foldL
  rw [byF_get hq, numL_at (unW_lt ws hq)]
/-- What a dough is not (1: ErrArg). -/
def okN (n : Int) : Bool := decide (2 ≤ n) && decide (n ≤ 32) && decide (n % 2 = 0)
theorem okN_half {n : Int} (h : okN n = true) : ∃ k : Nat, 1 ≤ k ∧ k ≤ 16 ∧ n = ((2 * k : Nat) : Int) := by
  simp only [okN, Bool.and_eq_true, decide_eq_true_eq] at h
  refine ⟨(n / 2).toNat, by omega, by omega, by omega⟩
end Go.Proofs.Ythjjpmcefiddmaa
