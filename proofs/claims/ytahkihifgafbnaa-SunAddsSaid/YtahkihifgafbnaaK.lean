/- Rings of the program. -/
import Derived.Test.YtahkihifgafbnaaJ
namespace Go.Proofs.Ytahkihifgafbnaa
open Go.RowKit

attribute [local go_sem] Oper.semAt_some

/-- How many of the strips c close a ring with a and b that is counted from a. -/
def thirdN (T : List (List Int)) (n a b : Nat) (pre : List (Fin n)) : Nat := (pre.filter fun c => decide (ent T c.val a = 1) && decide (a < min b c.val)).length
def secondN (T : List (List Int)) (n a : Nat) (pre : List (Fin n)) : Nat := (pre.map fun b => thirdN T n a b.val (outL T n b.val)).sum
def ringTo (T : List (List Int)) (n k : Nat) : Nat := ((List.range k).map fun a => secondN T n a (outL T n a)).sum
theorem thirdN_snoc (T : List (List Int)) (n a b : Nat) (pre : List (Fin n)) (c : Fin n) : thirdN T n a b (pre ++ [c]) = thirdN T n a b pre + if (decide (ent T c.val a = 1) && decide (a < min b c.val)) = true then 1 else 0 := by
  unfold thirdN
  rw [List.filter_append, List.length_append]
  cases h : (decide (ent T c.val a = 1) && decide (a < min b c.val)) <;> simp [h]
theorem secondN_snoc (T : List (List Int)) (n a : Nat) (pre : List (Fin n)) (b : Fin n) : secondN T n a (pre ++ [b]) = secondN T n a pre + thirdN T n a b.val (outL T n b.val) := by simp [secondN]
theorem ringTo_succ (T : List (List Int)) (n k : Nat) : ringTo T n (k + 1) = ringTo T n k + secondN T n k (outL T n k) := by simp [ringTo, List.range_succ]
theorem thirdN_le (T : List (List Int)) (n a b : Nat) (pre : List (Fin n)) : thirdN T n a b pre ≤ pre.length := List.length_filter_le _ _
theorem secondN_le (T : List (List Int)) (n a : Nat) : ∀ pre : List (Fin n), secondN T n a pre ≤ n * pre.length
  | [] => by simp [secondN]
  | b :: pre => by
    have h1 := thirdN_le T n a b.val (outL T n b.val)
    have h2 : (outL T n b.val).length ≤ n := outTo_len T n b.val n
    have h3 := secondN_le T n a pre
    have e : secondN T n a (b :: pre) = thirdN T n a b.val (outL T n b.val) + secondN T n a pre := by simp [secondN]
    rw [e, List.length_cons, Nat.mul_succ]
    omega
theorem ringTo_le (T : List (List Int)) (n : Nat) : ∀ k, ringTo T n k ≤ n * n * k
  | 0 => by simp [ringTo]
  | k + 1 => by
    have h1 := secondN_le T n k (outL T n k)
    have h2 : (outL T n k).length ≤ n := outTo_len T n k n
    have h3 := ringTo_le T n k
    have h4 := Nat.mul_le_mul_left n h2
    rw [ringTo_succ, Nat.mul_succ]
    omega

set_option maxRecDepth 100000 in
set_option maxHeartbeats 8000000 in
theorem rings_ok (lo : Nat) (A : Option Addr) (n c : Nat) (T : List (List Int)) (w : World) (hR : Tab lo w A T) (hn : T.length = n) (hE : errT T = 0) :
    Calls Try.prog 40 #[.slice A n c] w fun e w' => e = .returned (.tuple #[.int .i64 (ringTo T n n : Nat), .int .i64 0]) ∧ Bel w w' := by
  obtain ⟨⟨h1, h7⟩, hrw, -⟩ := errT_zero hE
  rw [hn] at h1 h7 hrw
  have hsq := rowsB_square hn hrw
  have hN := hR.toN hsq h1
  have HE := Lib.hid hE; have Hn := Lib.hid hn; have HSQ := Lib.hid hsq
  clear hE hn hrw hsq
  refine (callsIn_wide (n := 9)).1 ?_
  refine callsIn_of_wp_marks Try.func40 rfl trivial ?_ rfl
  simp only [Try.ntmps40, List.size_toArray, List.length_cons, List.length_nil, Nat.reduceAdd, Nat.reduceSub, Array.replicate_succ, Array.replicate_zero, List.push_toArray, List.append_toArray, List.nil_append, List.cons_append]
  gi_wp2_with (first | (refine ⟨trivial, ?_⟩; gi_at_call 41; refine (callsIn_wide.2 (validate_any lo A n c T _ hR Hn.out)).mono ?_; rintro e w1 ⟨rfl, hb1⟩; rw [HE.out]) | fail)
  have hs1 := hb1.size
  have hrow0 : Row ((w1.alloc (.cells #[.slice A n c] 61)).alloc (.cells #[.int .i64 0] 3)) (w1.heap.size + 1) 1 1 (fun _ => ((ringTo T n 0 : Nat) : Int)) := by
    have h0 := Row.whole (w1.alloc (.cells #[.slice A n c] 61)) #[.int .i64 0] 3 1 (fun _ => ((ringTo T n 0 : Nat) : Int)) (fun i hi => by
      obtain rfl : i = 0 := by omega
      rfl)
    simpa using h0
  refine wpIn_loop (fun a wr => ∃ (k : Nat) (u7 u8 u9 u19 u20 u21 u22 u23 u24 u25 u26 u27 u28 u29 u30 u31 u32 u33 u34 u35 u36 u37 u38 u39 u40 u41 u42 u43 : Value) (Ds : List Nat), k ≤ n ∧ a = { tmps := #[.slice A n c, undef, .int .i64 0, .int .i64 0, .int .i64 0, .pointer (some ⟨w1.heap.size, 0, none⟩), .pointer (some ⟨w1.heap.size + 1, 0, none⟩), u7, u8, u9, .slice A n c, .int .i64 0, .int .i64 0, .bool false, undef, .slice A n c, .slice A n c, .int .i64 (n : Int), .int .i64 (k : Int), u19, u20, u21, u22, u23, u24, u25, u26, u27, u28, u29, u30, u31, u32, u33, u34, u35, u36, u37, u38, u39, u40, u41, u42, u43], defers := coll Ds } ∧ Ds.Nodup ∧ Idle Ds wr ∧ (∀ D ∈ Ds, w1.heap.size + 2 ≤ D) ∧ Bel w wr ∧ Row wr (w1.heap.size + 1) 1 1 (fun _ => ((ringTo T n k : Nat) : Int)) ∧ wr.cell? ⟨w1.heap.size, 0, none⟩ = some (.slice A n c) ∧ w1.heap.size + 2 ≤ wr.heap.size)
    (fun a _ => n - (intOf (a.tmps.getD 18 undef)).toNat)
    ⟨0, undef, undef, undef, undef, undef, undef, undef, undef, undef, undef, undef, undef, undef, undef, undef, undef, undef, undef, undef, undef, undef, undef, undef, undef, undef, undef, undef, undef, [], Nat.zero_le _, rfl, List.nodup_nil, (fun D h => by cases h), (fun D h => by cases h), (hb1.alloc _).alloc _, hrow0, by go_simp, by simp⟩ ?_
  clear hrow0
  rintro a wr ⟨k, u7, u8, u9, u19, u20, u21, u22, u23, u24, u25, u26, u27, u28, u29, u30, u31, u32, u33, u34, u35, u36, u37, u38, u39, u40, u41, u42, u43, Ds, hk, rfl, hnd, hid, hDs, hb, hrow, hbox, hsz⟩
  have hrb := ringTo_le T n k
  have hnn : n * n * k ≤ 343 := Nat.le_trans (Nat.mul_le_mul (Nat.mul_le_mul h7 h7) (Nat.le_trans hk h7)) (by decide)
  by_cases hlt : k < n
  · have hki : (k : Int) < (n : Int) := by omega
    have hbox2 : (wr.alloc (.cells #[.int .i64 (k : Int)] 3)).cell? ⟨w1.heap.size, 0, none⟩ = some (.slice A n c) := by rw [((Bel.refl wr).alloc _).use.1 _ _ (by omega)]; exact hbox
    gi_wp2_with (first | (refine ⟨trivial, ?_⟩; gi_at_call 79; refine (callsIn_wide.2 (beaten_in _ _ _ _ _)).mono ?_; rintro e w' ⟨rfl, rfl⟩) | fail)
    have hB0 : Bel wr (((wr.alloc (.cells #[.int .i64 (k : Int)] 3)).alloc (.cells #[.slice A n c] 61)).alloc (.cells #[.int .i64 (k : Int)] 3)) := by (repeat (first | exact Bel.refl _ | assumption | refine Bel.drew ?_ | refine Bel.drewN ?_ _ | refine Bel.alloc ?_ _ | refine Bel.setCell ?_ (by first | omega | (simp; done) | (simp; omega) | (simp at *; omega)) _ | refine Bel.trans ?_ (by assumption)))
    have hsz0 : (((wr.alloc (.cells #[.int .i64 (k : Int)] 3)).alloc (.cells #[.slice A n c] 61)).alloc (.cells #[.int .i64 (k : Int)] 3)).heap.size = wr.heap.size + 3 := by simp
    have c7 : (((wr.alloc (.cells #[.int .i64 (k : Int)] 3)).alloc (.cells #[.slice A n c] 61)).alloc (.cells #[.int .i64 (k : Int)] 3)).cell? ⟨wr.heap.size, 0, none⟩ = some (.int .i64 (k : Int)) := by go_simp
    have cBt : (((wr.alloc (.cells #[.int .i64 (k : Int)] 3)).alloc (.cells #[.slice A n c] 61)).alloc (.cells #[.int .i64 (k : Int)] 3)).cell? ⟨wr.heap.size + 1, 0, none⟩ = some (.slice A n c) := by go_simp
    have cBs : (((wr.alloc (.cells #[.int .i64 (k : Int)] 3)).alloc (.cells #[.slice A n c] 61)).alloc (.cells #[.int .i64 (k : Int)] 3)).cell? ⟨wr.heap.size + 1 + 1, 0, none⟩ = some (.int .i64 (k : Int)) := by go_simp
    obtain ⟨W0, hW0⟩ : ∃ W0, ((wr.alloc (.cells #[.int .i64 (k : Int)] 3)).alloc (.cells #[.slice A n c] 61)).alloc (.cells #[.int .i64 (k : Int)] 3) = W0 := ⟨_, rfl⟩
    rw [hW0] at hB0 hsz0 c7 cBt cBs ⊢
    clear hW0
    have c5 : W0.cell? ⟨w1.heap.size, 0, none⟩ = some (.slice A n c) := by rw [hB0.use.1 _ _ (by omega)]; exact hbox
    have hrowW := hrow.bel hB0
    have hTW : TabN (fun x => x < W0.heap.size ∧ x ≠ (w1.heap.size + 1)) W0 A T := (hN.kept (fun x hx => (hb.trans hB0).block x hx)).mono (fun x (hx : x < w.heap.size) => ⟨by omega, by omega⟩)
    refine wpIn_rangeFunc_ownH rfl (by omega) (gf := 111) (lb := #[.pointer (some ⟨wr.heap.size + 1, 0, none⟩), .pointer (some ⟨wr.heap.size + 1 + 1, 0, none⟩)]) rfl trivial (enters_of Try.func111 (by kernel_rfl) rfl)
      (beaten_stops 7 (wr.heap.size + 1) (wr.heap.size + 1 + 1) (fun x => x < W0.heap.size ∧ x ≠ (w1.heap.size + 1)) A n c k T W0 HSQ.out (by omega) hlt ⟨by omega, by omega⟩ ⟨by omega, by omega⟩ (fun x h => h.1) cBt cBs hTW)
      (fun h k => h.trans k) (Kept.put (fun x h => h.1)) (Below.refl _ _) (fun _ => rfl)
      (fun pre W => Row W (w1.heap.size + 1) 1 1 (fun _ => ((ringTo T n k + secondN T n k pre : Nat) : Int)) ∧ W0.grownBy W (some (w1.heap.size + 1)))
      (fun _ _ _ => False)
      (OwnFrom.and (own_row (by omega) (fun (pre : List (Fin n)) _ => ((ringTo T n k + secondN T n k pre : Nat) : Int))) (own_grown (Nat.le_refl _)))
      (fun _ _ _ _ _ hs _ _ => hs)
      ⟨hrowW.congr (fun i _ => by simp [secondN]), ⟨rfl, rfl, rfl, Nat.le_refl _, fun _ _ _ => rfl⟩⟩
      (fun x a' W => ∃ Bx, W0.heap.size ≤ Bx ∧ Boxed W Bx 3 (.int .i64 (x.val : Int)) ∧ a' = { tmps := #[.slice A n c, undef, .int .i64 0, .int .i64 0, .int .i64 0, .pointer (some ⟨w1.heap.size, 0, none⟩), .pointer (some ⟨w1.heap.size + 1, 0, none⟩), .pointer (some ⟨wr.heap.size, 0, none⟩), .pointer (some ⟨Bx, 0, none⟩), u9, .slice A n c, .int .i64 0, .int .i64 0, .bool false, undef, .slice A n c, .slice A n c, .int .i64 (n : Int), .int .i64 (k : Int), .bool true, .int .i64 (k : Int), .slice A n c, .int .i64 (k : Int), .func (.func 111) #[] #[.pointer (some ⟨wr.heap.size + 1, 0, none⟩), .pointer (some ⟨wr.heap.size + 1 + 1, 0, none⟩)], .int .i64 (x.val : Int), u25, u26, u27, u28, u29, u30, u31, u32, u33, u34, u35, u36, u37, u38, u39, u40, u41, u42, u43], defers := [] })
      (fun x a' _ X Y row hs hg hr => by obtain ⟨Bx, h1, h2, h3⟩ := hs; exact ⟨Bx, h1, boxed_own Bx 3 (fun (_ : Unit) => Value.int .i64 (x.val : Int)) () X Y row h2 hg (fun r e => (hr r e).2), h3⟩)
      ?assign ?body ?done ?stop
    case assign =>
      intro l pre x W K hi hK
      gi_wp2
      exact hK _ _ ((KeepsOthers.alloc _ _).from _) (fun y hy => Below.heap_alloc W _ y (Nat.lt_of_lt_of_le hy.1 hi.2.size)) ⟨hi.1.alloc _, gb_new hi.2 _⟩ ⟨W.heap.size, hi.2.size, Boxed.new W _ _, rfl⟩
    case body =>
      rintro l pre x a' W hl ⟨r, hr⟩ ⟨hrow1, hgb1⟩ ⟨Bx, hBx, bX, rfl⟩ hlen
      have hgs := hgb1.size
      have d5 : W.cell? ⟨w1.heap.size, 0, none⟩ = some (.slice A n c) := by rw [World.cell?_of_block (w := W0) (a := ⟨w1.heap.size, 0, none⟩) (hgb1.block w1.heap.size (by omega) (by simp))]; exact c5
      have d8 := bX.cell
      gi_wp2_with (first | (refine ⟨trivial, ?_⟩; gi_at_call 79; refine (CallsIn.inRound l (callsIn_wide.2 (beaten_in _ _ _ _ _))).mono ?_; rintro e w' ⟨rfl, rfl⟩) | fail)
      have hB2 : Bel W ((W.alloc (.cells #[.slice A n c] 61)).alloc (.cells #[.int .i64 (x.val : Int)] 3)) := by (repeat (first | exact Bel.refl _ | assumption | refine Bel.drew ?_ | refine Bel.drewN ?_ _ | refine Bel.alloc ?_ _ | refine Bel.setCell ?_ (by first | omega | (simp; done) | (simp; omega) | (simp at *; omega)) _ | refine Bel.trans ?_ (by assumption)))
      have hsz2 : ((W.alloc (.cells #[.slice A n c] 61)).alloc (.cells #[.int .i64 (x.val : Int)] 3)).heap.size = W.heap.size + 2 := by simp
      have eBt : ((W.alloc (.cells #[.slice A n c] 61)).alloc (.cells #[.int .i64 (x.val : Int)] 3)).cell? ⟨W.heap.size, 0, none⟩ = some (.slice A n c) := by go_simp
      have eBs : ((W.alloc (.cells #[.slice A n c] 61)).alloc (.cells #[.int .i64 (x.val : Int)] 3)).cell? ⟨W.heap.size + 1, 0, none⟩ = some (.int .i64 (x.val : Int)) := by go_simp
      obtain ⟨W2, hW2⟩ : ∃ W2, (W.alloc (.cells #[.slice A n c] 61)).alloc (.cells #[.int .i64 (x.val : Int)] 3) = W2 := ⟨_, rfl⟩
      rw [hW2] at hB2 hsz2 eBt eBs ⊢
      clear hW2
      have hr' : W2.heap[l]? = some (.loop r) := (hB2.block l (Array.getElem?_eq_some_iff.1 hr).1).trans hr
      have hT2 : TabN (fun y => y < W2.heap.size ∧ y ≠ (w1.heap.size + 1)) W2 A T := ((hTW.kept (fun y hy => hgb1.block y hy.1 (by simp; exact hy.2))).kept (fun y hy => hB2.block y (by have := hy.1; omega))).mono (fun y hy => ⟨by have := hy.1; omega, hy.2⟩)
      have bX2 : Boxed W2 Bx 3 (.int .i64 (x.val : Int)) := (hB2.block Bx bX.lt).trans bX
      have hBxl := bX.lt
      have e5 : W2.cell? ⟨w1.heap.size, 0, none⟩ = some (.slice A n c) := by rw [hB2.use.1 _ _ (by omega)]; exact d5
      have e7 : W2.cell? ⟨wr.heap.size, 0, none⟩ = some (.int .i64 (k : Int)) := by rw [hB2.use.1 _ _ (by omega), World.cell?_of_block (w := W0) (a := ⟨wr.heap.size, 0, none⟩) (hgb1.block wr.heap.size (by omega) (by simp; omega))]; exact c7
      have hrow2 := hrow1.bel hB2
      refine wpIn_rangeFunc_ownN (l₀ := l) (r₀ := r) rfl hr' (by omega) (gf := 111) (lb := #[.pointer (some ⟨W.heap.size, 0, none⟩), .pointer (some ⟨W.heap.size + 1, 0, none⟩)]) rfl trivial (enters_of Try.func111 (by kernel_rfl) rfl)
        ((beaten_stops 5 W.heap.size (W.heap.size + 1) (fun y => y < W2.heap.size ∧ y ≠ (w1.heap.size + 1)) A n c x.val T W2 HSQ.out (by omega) x.isLt ⟨by omega, by omega⟩ ⟨by omega, by omega⟩ (fun y h => h.1) eBt eBs hT2).inRound l)
        (fun h k => h.trans k) (Kept.put (fun x h => h.1)) (Below.refl _ _) (fun _ => rfl)
        (fun pre' W' => Row W' (w1.heap.size + 1) 1 1 (fun _ => ((ringTo T n k + secondN T n k pre + thirdN T n k x.val pre' : Nat) : Int)) ∧ W2.grownBy W' (some (w1.heap.size + 1)))
        (fun _ _ _ => False)
        (OwnFrom.and (own_row (by omega) (fun (pre' : List (Fin n)) _ => ((ringTo T n k + secondN T n k pre + thirdN T n k x.val pre' : Nat) : Int))) (own_grown (Nat.le_refl _)))
        (fun _ _ _ _ _ hs _ _ => hs)
        ⟨hrow2.congr (fun i _ => by simp [thirdN]), ⟨rfl, rfl, rfl, Nat.le_refl _, fun _ _ _ => rfl⟩⟩
        (fun y a'' _ => a'' = { tmps := #[.slice A n c, undef, .int .i64 0, .int .i64 0, .int .i64 0, .pointer (some ⟨w1.heap.size, 0, none⟩), .pointer (some ⟨w1.heap.size + 1, 0, none⟩), .pointer (some ⟨wr.heap.size, 0, none⟩), .pointer (some ⟨Bx, 0, none⟩), .int .i64 (y.val : Int), .slice A n c, .int .i64 0, .int .i64 0, .bool false, undef, .slice A n c, .slice A n c, .int .i64 (n : Int), .int .i64 (k : Int), .bool true, .int .i64 (k : Int), .slice A n c, .int .i64 (k : Int), .func (.func 111) #[] #[.pointer (some ⟨wr.heap.size + 1, 0, none⟩), .pointer (some ⟨wr.heap.size + 1 + 1, 0, none⟩)], .int .i64 (x.val : Int), .slice A n c, .int .i64 (x.val : Int), .func (.func 111) #[] #[.pointer (some ⟨W.heap.size, 0, none⟩), .pointer (some ⟨W.heap.size + 1, 0, none⟩)], .int .i64 (y.val : Int), u29, u30, u31, u32, u33, u34, u35, u36, u37, u38, u39, u40, u41, u42, u43], defers := [] })
        (fun _ _ _ _ _ _ hs _ _ => hs)
        ?assign2 ?body2 ?done2 ?stop2
      case assign2 =>
        intro l2 pre' y W' K hi hK
        gi_wp2
        exact hK _ _ (KeepsFrom.refl _ _) (Kept.refl _ _) hi rfl
      case body2 =>
        rintro l2 pre' y a'' W' _ _ ⟨hrow3, hgb3⟩ rfl hlen2
        have hT3 := hT2.kept (w' := W') (fun y hy => hgb3.block y hy.1 (by simp; exact hy.2))
        have f5 : W'.cell? ⟨w1.heap.size, 0, none⟩ = some (.slice A n c) := by rw [World.cell?_of_block (w := W2) (a := ⟨w1.heap.size, 0, none⟩) (hgb3.block w1.heap.size (by omega) (by simp))]; exact e5
        have f7 : W'.cell? ⟨wr.heap.size, 0, none⟩ = some (.int .i64 (k : Int)) := by rw [World.cell?_of_block (w := W2) (a := ⟨wr.heap.size, 0, none⟩) (hgb3.block wr.heap.size (by omega) (by simp; omega))]; exact e7
        have f8 : W'.cell? ⟨Bx, 0, none⟩ = some (.int .i64 (x.val : Int)) := by rw [World.cell?_of_block (w := W2) (a := ⟨Bx, 0, none⟩) (hgb3.block Bx (by omega) (by simp; omega))]; exact bX2.cell
        have f6 := hrow3.cells 0 (by omega)
        have hfz := hrow3.fz 0
        have hcb : ringTo T n k + secondN T n k pre + thirdN T n k x.val pre' ≤ 500 := by
          have b1 := secondN_le T n k pre
          have b2 : n * pre.length ≤ 49 := Nat.le_trans (Nat.mul_le_mul h7 (by omega : pre.length ≤ 7)) (by decide)
          have b3 := thirdN_le T n k x.val pre'
          omega
        obtain ⟨cnt, hcnt⟩ : ∃ cnt, cnt = ringTo T n k + secondN T n k pre + thirdN T n k x.val pre' := ⟨_, rfl⟩
        rw [← hcnt] at f6 hcb
        by_cases q1 : ent T y.val k = 1
        · have hd : decide (ent T y.val k = 1) = true := by simpa using q1
          by_cases hxy : x.val ≤ y.val
          · have hxyi : (x.val : Int) ≤ (y.val : Int) := by omega
            by_cases q2 : k < x.val
            · have q2i : (k : Int) < (x.val : Int) := by omega
              gi_wp2_with (first | (refine ⟨trivial, ?_⟩; gi_at_call 80; refine (CallsIn.inRound l2 (CallsIn.inRound l (callsIn_wide.2 (beats_any _ A n c y.val k T _ hT3 HSQ.out y.isLt hlt)))).mono ?_; rintro e w' ⟨rfl, rfl⟩; rw [hd]) | fail)
              exact ⟨(KeepsOthers.setCell _ _ _).from _, fun z hz => Below.heap_setCell _ _ _ _ (fun e => hz.2 (by first | exact e | exact e.symm)), (hrow3.put (by omega) _).congr (fun i hi => by obtain rfl : i = 0 := (by omega); rw [thirdN_snoc, if_pos (by simp [q1]; omega), if_pos rfl]; omega), gb_store hgb3 _⟩
            · have q2i : ¬ (k : Int) < (x.val : Int) := by omega
              gi_wp2_with (first | (refine ⟨trivial, ?_⟩; gi_at_call 80; refine (CallsIn.inRound l2 (CallsIn.inRound l (callsIn_wide.2 (beats_any _ A n c y.val k T _ hT3 HSQ.out y.isLt hlt)))).mono ?_; rintro e w' ⟨rfl, rfl⟩; rw [hd]) | fail)
              exact ⟨KeepsFrom.refl _ _, Kept.refl _ _, hrow3.congr (fun i _ => by rw [thirdN_snoc, if_neg (by simp [q1]; omega), Nat.add_zero]), hgb3⟩
          · have hxyi : ¬ (x.val : Int) ≤ (y.val : Int) := by omega
            by_cases q2 : k < y.val
            · have q2i : (k : Int) < (y.val : Int) := by omega
              gi_wp2_with (first | (refine ⟨trivial, ?_⟩; gi_at_call 80; refine (CallsIn.inRound l2 (CallsIn.inRound l (callsIn_wide.2 (beats_any _ A n c y.val k T _ hT3 HSQ.out y.isLt hlt)))).mono ?_; rintro e w' ⟨rfl, rfl⟩; rw [hd]) | fail)
              exact ⟨(KeepsOthers.setCell _ _ _).from _, fun z hz => Below.heap_setCell _ _ _ _ (fun e => hz.2 (by first | exact e | exact e.symm)), (hrow3.put (by omega) _).congr (fun i hi => by obtain rfl : i = 0 := (by omega); rw [thirdN_snoc, if_pos (by simp [q1]; omega), if_pos rfl]; omega), gb_store hgb3 _⟩
            · have q2i : ¬ (k : Int) < (y.val : Int) := by omega
              gi_wp2_with (first | (refine ⟨trivial, ?_⟩; gi_at_call 80; refine (CallsIn.inRound l2 (CallsIn.inRound l (callsIn_wide.2 (beats_any _ A n c y.val k T _ hT3 HSQ.out y.isLt hlt)))).mono ?_; rintro e w' ⟨rfl, rfl⟩; rw [hd]) | fail)
              exact ⟨KeepsFrom.refl _ _, Kept.refl _ _, hrow3.congr (fun i _ => by rw [thirdN_snoc, if_neg (by simp [q1]; omega), Nat.add_zero]), hgb3⟩
        · have hd : decide (ent T y.val k = 1) = false := by simpa using q1
          gi_wp2_with (first | (refine ⟨trivial, ?_⟩; gi_at_call 80; refine (CallsIn.inRound l2 (CallsIn.inRound l (callsIn_wide.2 (beats_any _ A n c y.val k T _ hT3 HSQ.out y.isLt hlt)))).mono ?_; rintro e w' ⟨rfl, rfl⟩; rw [hd]) | fail)
          exact ⟨KeepsFrom.refl _ _, Kept.refl _ _, hrow3.congr (fun i _ => by rw [thirdN_snoc, if_neg (by simp [q1]), Nat.add_zero]), hgb3⟩
      case done2 =>
        rintro ys' W' rfl ⟨hrow3, hgb3⟩
        gi_wp2
        refine ⟨⟨Nat.le_trans hB2.size hgb3.size, fun z o hz hzo hoc => ?_⟩, fun z hz => ?_, ?_, ?_⟩
        · have hzl := (Array.getElem?_eq_some_iff.1 hzo).1
          rw [hgb3.block z (by omega) (by simp; omega), hB2.block z hzl]
          exact hzo
        · rw [hgb3.block z (by have := hz.1; omega) (by simp; exact hz.2), hB2.block z (by have := hz.1; omega)]
        · exact hrow3.congr (fun i _ => by rw [secondN_snoc]; simp; omega)
        · exact ⟨hgb3.os.trans (hB2.os.trans hgb1.os), hgb3.tape.trans (hB2.tape.trans hgb1.tape), hgb3.output.trans (hB2.output.trans hgb1.output), Nat.le_trans hgs (Nat.le_trans hB2.size hgb3.size), fun z hz hne => by rw [hgb3.block z (by omega) hne, hB2.block z (by omega)]; exact hgb1.block z hz hne⟩
      case stop2 =>
        rintro c' pre' W' _ h
        exact h.elim
    case done =>
      rintro D ys W hD rfl ⟨hrow2, hgb⟩ hK
      gi_wp2
      have hDn : D ∉ Ds := fun h => by
        have := (Array.getElem?_eq_some_iff.1 (hid D h)).1
        omega
      refine ⟨⟨k + 1, _, _, _, _, _, _, _, _, _, _, _, _, _, _, _, _, _, _, _, _, _, _, _, _, _, _, _, _, D :: Ds, by omega, rfl, List.nodup_cons.2 ⟨hDn, hnd⟩, fun E hE => ?_, fun E hE => ?_, ?_, ?_, ?_, ?_⟩, ?_⟩
      · rcases List.mem_cons.1 hE with rfl | hE
        · exact hK
        · have h1 := hid E hE
          have h2 := (Array.getElem?_eq_some_iff.1 h1).1
          have h3 := hDs E hE
          rw [hgb.block E (by omega) (by simp; omega), hB0.block E h2]
          exact h1
      · rcases List.mem_cons.1 hE with rfl | hE
        · omega
        · exact hDs E hE
      · exact Below.grown (hb.trans hB0) hgb (hb.trans hB0).size (fun x e => by cases e; omega)
      · exact hrow2.congr (fun i _ => by rw [ringTo_succ])
      · rw [World.cell?_of_block (w := W0) (a := ⟨w1.heap.size, 0, none⟩) (hgb.block w1.heap.size (by omega) (by simp))]; exact c5
      · have := hgb.size
        omega
      · simp [intOf]
        omega
    case stop =>
      rintro D c' pre W _ _ h _
      exact h.elim
  · obtain rfl : n = k := by omega
    have f6 := hrow.cells 0 (by omega)
    gi_wp2
    refine leaves_many Ds wr hnd hid ?_
    exact ⟨.tuple #[.int .i64 (ringTo T n n : Nat), .int .i64 0], by simp [results, Try.f40, go_sem], rfl, takeAll_bel Ds wr hnd hid (fun D hD => by have := hDs D hD; omega) hb⟩
end Go.Proofs.Ytahkihifgafbnaa
