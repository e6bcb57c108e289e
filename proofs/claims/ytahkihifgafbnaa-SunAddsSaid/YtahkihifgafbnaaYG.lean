/- Tables of its own whose rows lie apart. -/
import Derived.Test.YtahkihifgafbnaaYF
namespace Go.Proofs.Ytahkihifgafbnaa
open Go.RowKit

/-- v is a slice of its own of k rows, row i in block bs i (a block of its own) with ls i numbers, f i. -/
structure Grid (base : Nat) (w : World) (v : Value) (k : Nat) (bs ls cs : Nat → Nat) (f : Nat → Nat → Int) : Prop where
  own : w.ownsRow base 26 1 v k ((List.range k).map fun i => .slice (some ⟨bs i, 0, none⟩) (ls i) (cs i))
  lo : ∀ i, i < k → base ≤ bs i
  ne : ∀ i, i < k → v.ownBlock ≠ some (bs i)
  inj : ∀ i j, i < k → j < k → bs i = bs j → i = j
  row : ∀ i, i < k → ∃ m, ls i ≤ m ∧ Row w (bs i) m (ls i) (f i)
theorem Grid.nil (base : Nat) (w : World) : Grid base w (.slice none 0 0) 0 (fun _ => 0) (fun _ => 0) (fun _ => 0) (fun _ _ => 0) :=
  ⟨World.ownsRow_nil _ _ _ _, fun i h => by omega, fun i h => by omega, fun i j h => by omega, fun i h => by omega⟩
section
variable {base : Nat} {w w' : World} {v : Value} {k : Nat} {bs ls cs : Nat → Nat} {f : Nat → Nat → Int}
theorem Grid.bel (h : Grid base w v k bs ls cs f) (hb : Bel w w') : Grid base w' v k bs ls cs f :=
  ⟨ownsRow_bel h.own hb, h.lo, h.ne, h.inj, fun i hi => by obtain ⟨m, h1, h2⟩ := h.row i hi; exact ⟨m, h1, h2.bel hb⟩⟩
theorem Grid.congr {f' : Nat → Nat → Int} {ls' : Nat → Nat} (h : Grid base w v k bs ls cs f) (hl : ∀ i, i < k → ls' i = ls i) (hf : ∀ i j, i < k → j < ls i → f' i j = f i j) : Grid base w v k bs ls' cs f' := by
  refine ⟨?_, h.lo, h.ne, h.inj, fun i hi => ?_⟩
  · have e : ((List.range k).map fun i => Value.slice (some ⟨bs i, 0, none⟩) (ls' i) (cs i)) = (List.range k).map fun i => .slice (some ⟨bs i, 0, none⟩) (ls i) (cs i) :=
      List.map_congr_left fun i hi => by rw [hl i (List.mem_range.1 hi)]
    rw [e]
    exact h.own
  · obtain ⟨m, h1, h2⟩ := h.row i hi
    rw [hl i hi]
    exact ⟨m, h1, h2.congr fun j hj => hf i j hi hj⟩
theorem Grid.form (h : Grid base w v k bs ls cs f) (hk : 0 < k) : ∃ g c, v = .slice (some ⟨g, 0, none⟩) k c := by
  rcases h.own.2 with ⟨_, h0⟩ | ⟨g, cap, cur, rfl, _⟩
  · omega
  · exact ⟨g, cap, rfl⟩
theorem Grid.cell {g c : Nat} (h : Grid base w (.slice (some ⟨g, 0, none⟩) k c) k bs ls cs f) {i : Nat} (hi : i < k) : w.cell? ⟨g, i, none⟩ = some (.slice (some ⟨bs i, 0, none⟩) (ls i) (cs i)) := by
  have := World.ownsRow.cells (g := g) h.own rfl i (.slice (some ⟨bs i, 0, none⟩) (ls i) (cs i)) (by rw [List.getElem?_map, List.getElem?_range hi]; rfl)
  rw [Go.Addr.add_mid, Nat.zero_add] at this
  exact this
theorem Grid.put (h : Grid base w v k bs ls cs f) {i j : Nat} (hi : i < k) (hj : j < ls i) (x : Int) :
    Grid base (w.setCell ⟨bs i, j, none⟩ (.int .i64 x)) v k bs ls cs (fun a b => if a = i ∧ b = j then x else f a b) := by
  refine ⟨World.ownsRow.kept (row := some (bs i)) h.own ⟨rfl, rfl, rfl, by simp [World.setCell], fun b _ hb => Below.heap_setCell _ _ _ _ (fun e => hb (by rw [e]))⟩ (.inr (h.ne i hi)), h.lo, h.ne, h.inj, fun a ha => ?_⟩
  obtain ⟨m, h1, h2⟩ := h.row a ha
  refine ⟨m, h1, ?_⟩
  by_cases e : a = i
  · subst e
    obtain ⟨u, hu⟩ := h2.all j (by omega)
    refine ⟨by simpa [World.setCell] using h2.lt, fun b => by rw [World.frozen?_setCell]; exact h2.fz b, fun b hb => ?_, fun b hb => ?_⟩
    · by_cases e : b = j
      · subst e
        exact ⟨_, World.cell?_setCell_same _ _ _ hu⟩
      · rw [World.cell?_setCell_other _ _ _ _ (by simp <;> omega)]
        exact h2.all b hb
    · by_cases e : b = j
      · subst e
        rw [if_pos ⟨rfl, rfl⟩]
        exact World.cell?_setCell_same _ _ _ hu
      · rw [World.cell?_setCell_other _ _ _ _ (by simp <;> omega), if_neg (fun e' => e e'.2)]
        exact h2.cells b hb
  · exact (h2.far (p := ⟨bs i, j, none⟩) (fun e' => e (h.inj a i ha hi e')) _).congr fun b hb => by rw [if_neg (fun e' => e e'.1)]
theorem Grid.snoc {g cap b l c m : Nat} {r : Nat → Int} (h : Grid base w v k bs ls cs f) (hr : Row w b m l r) (hm : l ≤ m) (hb : base ≤ b) (hn : v.ownBlock ≠ some b) (hnb : ∀ i, i < k → bs i ≠ b)
    (hown : w'.ownsRow base 26 1 (.slice (some ⟨g, 0, none⟩) (k + 1) cap) (k + 1) (((List.range k).map fun i => .slice (some ⟨bs i, 0, none⟩) (ls i) (cs i)) ++ [.slice (some ⟨b, 0, none⟩) l c]))
    (hg : w.grownBy w' v.ownBlock) (hat : v.ownBlock = some g ∨ g = w.heap.size) :
    Grid base w' (.slice (some ⟨g, 0, none⟩) (k + 1) cap) (k + 1) (fun i => if i = k then b else bs i) (fun i => if i = k then l else ls i) (fun i => if i = k then c else cs i) (fun i => if i = k then r else f i) := by
  have hblk : ∀ i, i < k + 1 → (if i = k then b else bs i) < w.heap.size ∧ v.ownBlock ≠ some (if i = k then b else bs i) ∧ base ≤ (if i = k then b else bs i) := fun i hi => by
    by_cases e : i = k
    · rw [if_pos e]
      exact ⟨hr.lt, hn, hb⟩
    · rw [if_neg e]
      obtain ⟨_, _, h2⟩ := h.row i (by omega)
      exact ⟨h2.lt, h.ne i (by omega), h.lo i (by omega)⟩
  refine ⟨?_, fun i hi => (hblk i hi).2.2, fun i hi e => ?_, fun i j hi hj e => ?_, fun i hi => ?_⟩
  · have e : ((List.range (k + 1)).map fun i => Value.slice (some ⟨if i = k then b else bs i, 0, none⟩) (if i = k then l else ls i) (if i = k then c else cs i)) = ((List.range k).map fun i => .slice (some ⟨bs i, 0, none⟩) (ls i) (cs i)) ++ [.slice (some ⟨b, 0, none⟩) l c] := by
      rw [List.range_succ, List.map_append]
      congr 1
      · exact List.map_congr_left fun i hi => by
          have := List.mem_range.1 hi
          rw [if_neg (by omega), if_neg (by omega), if_neg (by omega)]
      · simp
    rw [e]
    exact hown
  · obtain ⟨h1, h2, _⟩ := hblk i hi
    have e' : some g = some (if i = k then b else bs i) := e
    injection e' with e'
    rcases hat with hat | hat
    · exact h2 (by rw [← e']; exact hat)
    · omega
  · by_cases e1 : i = k
    · by_cases e2 : j = k
      · omega
      · rw [if_pos e1, if_neg e2] at e
        exact absurd e.symm (hnb j (by omega))
    · by_cases e2 : j = k
      · rw [if_neg e1, if_pos e2] at e
        exact absurd e (hnb i (by omega))
      · rw [if_neg e1, if_neg e2] at e
        exact h.inj i j (by omega) (by omega) e
  · obtain ⟨h1, h2, _⟩ := hblk i hi
    have hs : ∀ {m' k' : Nat} {f' : Nat → Int}, Row w (if i = k then b else bs i) m' k' f' → Row w' (if i = k then b else bs i) m' k' f' := fun hR => hR.of_block hg.size (hg.block _ hR.lt (fun e => h2 e.symm))
    by_cases e : i = k
    · refine ⟨m, by rw [if_pos e]; exact hm, hs ?_⟩
      rw [if_pos e, if_pos e, if_pos e]
      exact hr
    · obtain ⟨m', k1, k2⟩ := h.row i (by omega)
      refine ⟨m', by rw [if_neg e]; exact k1, hs ?_⟩
      rw [if_neg e, if_neg e, if_neg e]
      exact k2
theorem Row.ints' {b m l : Nat} {r : Nat → Int} {ns : List Int} (h : Row w b m l r) (hl : ns.length = l) (hr : ∀ (j : Nat) x, ns[j]? = some x → x = r j) : Ints w (some ⟨b, 0, none⟩) ns := by
  refine .inr ⟨b, 0, rfl, h.lt, fun j x hj => ?_⟩
  have hlt := (List.getElem?_eq_some_iff.1 hj).1
  rw [Nat.zero_add, h.cells j (by omega), hr j x hj]
theorem Grid.tab {T : List (List Int)} (h : Grid base w v k bs ls cs f) (hk : T.length = k) (hT : ∀ (i : Nat) r, T[i]? = some r → r.length = ls i ∧ r.length ≤ maxLen ∧ ∀ (j : Nat) x, r[j]? = some x → x = f i j) :
    OwnT base w v T := by
  refine ⟨_, by rw [hk]; exact h.own, by simp [hk], fun i r hi => ?_⟩
  have hik := (List.getElem?_eq_some_iff.1 hi).1
  rw [hk] at hik
  obtain ⟨h1, h2, h3⟩ := hT i r hi
  obtain ⟨m, h4, h5⟩ := h.row i hik
  exact ⟨_, _, _, by rw [List.getElem?_map, List.getElem?_range hik]; rfl, h5.ints' h1 h3, h1, by omega, fun b o e => by
    injection e with e
    injection e with e1 e2 e3
    subst e1
    exact ⟨h5.lt, h.ne i hik, h.lo i hik⟩⟩
theorem Row.of_own {e g n cap : Nat} {l : List Int} (h : w.ownsRow base e 1 (.slice (some ⟨g, 0, none⟩) n cap) n (l.map fun x => .int .i64 x)) : base ≤ g ∧ n ≤ cap ∧ Row w g cap n (fun j => l.getD j 0) := by
  have hlt := World.ownsRow.lt h g rfl
  have hc := World.ownsRow.cells (g := g) h rfl
  rcases h.2 with ⟨e, _⟩ | ⟨g', cap', cur, hv, hb, hg, hn, hm, hs, ht⟩
  · cases e
  · cases hv
    refine ⟨hb, hn, hlt.2, fun i => by simp [World.frozen?, hg], fun i hi => ?_, fun i hi => ?_⟩
    · rw [Nat.mul_one] at hs
      obtain ⟨u, hu⟩ : ∃ u, cur[i]? = some u := ⟨_, Array.getElem?_eq_getElem (by omega)⟩
      exact ⟨u, by simp [World.cell?, hg, hu]⟩
    · have hl : l.length = n := by simpa using h.1
      have := hc i (.int .i64 (l.getD i 0)) (by rw [List.getElem?_map, List.getD_eq_getElem?_getD, List.getElem?_eq_getElem (by omega)]; rfl)
      rw [Go.Addr.add_mid, Nat.zero_add] at this
      exact this
end
end Go.Proofs.Ytahkihifgafbnaa
