/- ranking and Fewest of the program. -/
import Derived.Test.YtahkihifgafbnaaP
import Derived.Laws.EntriesVeiled
namespace Go.Proofs.Ytahkihifgafbnaa
open Go.RowKit

attribute [local go_sem] Oper.semAt_some

/-- The first order with the fewest upsets, and how many they are. -/
def bestS (T : List (List Int)) (n : Nat) : List Int × Nat := placeS T n n [] 0 ([], n * n)

set_option maxRecDepth 100000 in
set_option maxHeartbeats 2000000 in
theorem rank_any (S : Nat → Prop) (A : Option Addr) (n c : Nat) (T : List (List Int)) (w : World) (hT : TabN S w A T) (hS : ∀ k, S k → k < w.heap.size) (hs : Square T n) (hn7 : n ≤ 7) :
    Calls Try.prog 88 #[.slice A n c] w fun e w' => ∃ E q z, e = .returned (.tuple #[.slice E q z, .int .i64 ((bestS T n).2 : Nat)]) ∧ Bel w w' ∧ q = (bestS T n).1.length ∧ Ints w' E (bestS T n).1 := by
  have HSQ := Lib.hid hs
  clear hs
  have hmm : n * n ≤ 49 := Nat.le_trans (Nat.mul_le_mul hn7 hn7) (by decide)
  have hmi : (n : Int) * (n : Int) = ((n * n : Nat) : Int) := by rw [Int.natCast_mul]
  obtain ⟨nn, hnn⟩ : ∃ nn, nn = n * n := ⟨_, rfl⟩
  rw [← hnn] at hmm hmi
  have HNN := Lib.hid hnn
  clear hnn
  have pc : ((((w.alloc (.cells #[.slice A n c] 61)).alloc (.cells #[.slice none 0 0] 26)).alloc (.cells #[.int .i64 (nn : Int)] 3)).alloc (.cells #[.nilFunc] 87)).cell? ⟨w.heap.size + 1 + 1 + 1, 0, none⟩ = some .nilFunc := by go_simp
  have pf : ((((w.alloc (.cells #[.slice A n c] 61)).alloc (.cells #[.slice none 0 0] 26)).alloc (.cells #[.int .i64 (nn : Int)] 3)).alloc (.cells #[.nilFunc] 87)).frozen? ⟨w.heap.size + 1 + 1 + 1, 0, none⟩ = false := by go_simp
  go_enter Try.func88, Try.ntmps88
  go_wp2_with fail
  have hB0 : Bel w ((((w.alloc (.cells #[.slice A n c] 61)).alloc (.cells #[.slice none 0 0] 26)).alloc (.cells #[.int .i64 (nn : Int)] 3)).alloc (.cells #[.func (.func 115) #[] #[.pointer (some ⟨w.heap.size + 1 + 1, 0, none⟩), .pointer (some ⟨w.heap.size, 0, none⟩), .pointer (some ⟨w.heap.size + 1, 0, none⟩), .pointer (some ⟨w.heap.size + 1 + 1 + 1, 0, none⟩)]] 87)) := by (repeat (first | exact Bel.refl _ | assumption | refine Bel.drew ?_ | refine Bel.drewN ?_ _ | refine Bel.alloc ?_ _ | refine Bel.setCell ?_ (by first | omega | (simp; done) | (simp; omega) | (simp at *; omega)) _ | refine Bel.trans ?_ (by assumption)))
  have hsz0 : ((((w.alloc (.cells #[.slice A n c] 61)).alloc (.cells #[.slice none 0 0] 26)).alloc (.cells #[.int .i64 (nn : Int)] 3)).alloc (.cells #[.func (.func 115) #[] #[.pointer (some ⟨w.heap.size + 1 + 1, 0, none⟩), .pointer (some ⟨w.heap.size, 0, none⟩), .pointer (some ⟨w.heap.size + 1, 0, none⟩), .pointer (some ⟨w.heap.size + 1 + 1 + 1, 0, none⟩)]] 87)).heap.size = w.heap.size + 4 := by simp
  have c0 : ((((w.alloc (.cells #[.slice A n c] 61)).alloc (.cells #[.slice none 0 0] 26)).alloc (.cells #[.int .i64 (nn : Int)] 3)).alloc (.cells #[.func (.func 115) #[] #[.pointer (some ⟨w.heap.size + 1 + 1, 0, none⟩), .pointer (some ⟨w.heap.size, 0, none⟩), .pointer (some ⟨w.heap.size + 1, 0, none⟩), .pointer (some ⟨w.heap.size + 1 + 1 + 1, 0, none⟩)]] 87)).cell? ⟨w.heap.size, 0, none⟩ = some (.slice A n c) := by go_simp
  have c1 : ((((w.alloc (.cells #[.slice A n c] 61)).alloc (.cells #[.slice none 0 0] 26)).alloc (.cells #[.int .i64 (nn : Int)] 3)).alloc (.cells #[.func (.func 115) #[] #[.pointer (some ⟨w.heap.size + 1 + 1, 0, none⟩), .pointer (some ⟨w.heap.size, 0, none⟩), .pointer (some ⟨w.heap.size + 1, 0, none⟩), .pointer (some ⟨w.heap.size + 1 + 1 + 1, 0, none⟩)]] 87)).cell? ⟨w.heap.size + 1, 0, none⟩ = some (.slice none 0 0) := by go_simp
  have z1 : ((((w.alloc (.cells #[.slice A n c] 61)).alloc (.cells #[.slice none 0 0] 26)).alloc (.cells #[.int .i64 (nn : Int)] 3)).alloc (.cells #[.func (.func 115) #[] #[.pointer (some ⟨w.heap.size + 1 + 1, 0, none⟩), .pointer (some ⟨w.heap.size, 0, none⟩), .pointer (some ⟨w.heap.size + 1, 0, none⟩), .pointer (some ⟨w.heap.size + 1 + 1 + 1, 0, none⟩)]] 87)).frozen? ⟨w.heap.size + 1, 0, none⟩ = false := by go_simp
  have c2 : ((((w.alloc (.cells #[.slice A n c] 61)).alloc (.cells #[.slice none 0 0] 26)).alloc (.cells #[.int .i64 (nn : Int)] 3)).alloc (.cells #[.func (.func 115) #[] #[.pointer (some ⟨w.heap.size + 1 + 1, 0, none⟩), .pointer (some ⟨w.heap.size, 0, none⟩), .pointer (some ⟨w.heap.size + 1, 0, none⟩), .pointer (some ⟨w.heap.size + 1 + 1 + 1, 0, none⟩)]] 87)).cell? ⟨w.heap.size + 1 + 1, 0, none⟩ = some (.int .i64 (nn : Int)) := by go_simp
  have z2 : ((((w.alloc (.cells #[.slice A n c] 61)).alloc (.cells #[.slice none 0 0] 26)).alloc (.cells #[.int .i64 (nn : Int)] 3)).alloc (.cells #[.func (.func 115) #[] #[.pointer (some ⟨w.heap.size + 1 + 1, 0, none⟩), .pointer (some ⟨w.heap.size, 0, none⟩), .pointer (some ⟨w.heap.size + 1, 0, none⟩), .pointer (some ⟨w.heap.size + 1 + 1 + 1, 0, none⟩)]] 87)).frozen? ⟨w.heap.size + 1 + 1, 0, none⟩ = false := by go_simp
  have c3 : ((((w.alloc (.cells #[.slice A n c] 61)).alloc (.cells #[.slice none 0 0] 26)).alloc (.cells #[.int .i64 (nn : Int)] 3)).alloc (.cells #[.func (.func 115) #[] #[.pointer (some ⟨w.heap.size + 1 + 1, 0, none⟩), .pointer (some ⟨w.heap.size, 0, none⟩), .pointer (some ⟨w.heap.size + 1, 0, none⟩), .pointer (some ⟨w.heap.size + 1 + 1 + 1, 0, none⟩)]] 87)).cell? ⟨w.heap.size + 1 + 1 + 1, 0, none⟩ = some (.func (.func 115) #[] #[.pointer (some ⟨w.heap.size + 1 + 1, 0, none⟩), .pointer (some ⟨w.heap.size, 0, none⟩), .pointer (some ⟨w.heap.size + 1, 0, none⟩), .pointer (some ⟨w.heap.size + 1 + 1 + 1, 0, none⟩)]) := by go_simp
  obtain ⟨W0, hW0⟩ : ∃ W0, ((((w.alloc (.cells #[.slice A n c] 61)).alloc (.cells #[.slice none 0 0] 26)).alloc (.cells #[.int .i64 (nn : Int)] 3)).alloc (.cells #[.func (.func 115) #[] #[.pointer (some ⟨w.heap.size + 1 + 1, 0, none⟩), .pointer (some ⟨w.heap.size, 0, none⟩), .pointer (some ⟨w.heap.size + 1, 0, none⟩), .pointer (some ⟨w.heap.size + 1 + 1 + 1, 0, none⟩)]] 87)) = W0 := ⟨_, rfl⟩
  rw [hW0] at hB0 hsz0 c0 c1 z1 c2 z2 c3 ⊢
  clear hW0 pc pf
  have hTW : TabN (fun x => x < W0.heap.size ∧ x ≠ w.heap.size + 1 + 1 ∧ x ≠ w.heap.size + 1) W0 A T := (hT.kept (fun x hx => hB0.block x (hS x hx))).mono (fun x hx => by have := hS x hx; exact ⟨by omega, by omega, by omega⟩)
  have hcall := place_any A n c (w.heap.size + 1 + 1) (w.heap.size + 1) w.heap.size (w.heap.size + 1 + 1 + 1) T HSQ.out hn7 ⟨by omega, by omega, by omega, by omega, by omega⟩ n [] 0 ([], nn) none 0 0 W0 (by simp) rfl (fun x hx => by cases hx) (by simp) ⟨c2, z2, z1, none, 0, 0, c1, rfl, .inl rfl⟩ c0 c3 hTW (.inl rfl)
  rw [HNN.out] at hcall
  refine hcall.mono ?_
  rintro e w5 ⟨⟨rv, rfl⟩, h5, hF, -, -, E, q, z, hBc, hq, hI⟩
  have hst : placeS T n n [] 0 ([], n * n) = bestS T n := rfl
  rw [hst] at hF hq hI
  have hb5 : Bel w w5 := ⟨h5.os.trans hB0.os, h5.tape.trans hB0.tape, h5.output.trans hB0.output, Nat.le_trans hB0.size h5.size, fun k hk => (h5.block k (by omega) (by omega) (by omega)).trans (hB0.block k hk)⟩
  have hII := hI.ints
  have Hq5 := Lib.hid hq
  clear hq hI hst hcall
  go_wp2
  go_region
  all_goals go_wp2
  all_goals go_ret2
  all_goals exact ⟨E, q, z, rfl, hb5.drew, Hq5.out, hII.bel ((Bel.refl _).drew)⟩

/-- Fewest of the program. -/
theorem fewest_ok (lo : Nat) (A : Option Addr) (n c : Nat) (T : List (List Int)) (w : World) (hR : Tab lo w A T) (hn : T.length = n) (hE : errT T = 0) :
    Calls Try.prog 61 #[.slice A n c] w fun e w' => e = .returned (.tuple #[.int .i64 ((bestS T n).2 : Nat), .int .i64 0]) ∧ Bel w w' := by
  obtain ⟨⟨h1, h7⟩, hrw, -⟩ := errT_zero hE
  rw [hn] at h1 h7 hrw
  have hsq := rowsB_square hn hrw
  have hN := hR.toN hsq h1
  have HE := Lib.hid hE; have Hn := Lib.hid hn; have HSQ := Lib.hid hsq
  clear hE hn hrw hsq
  go_enter Try.func61, Try.ntmps61
  go_wp2_with fail
  refine (validate_any lo A n c T _ hR Hn.out).mono ?_
  rintro e w1 ⟨rfl, hb1⟩
  rw [HE.out]
  have hs1 := hb1.size
  go_wp2_with fail
  refine (rank_any (· < w.heap.size) A n c T w1 (hN.kept (fun x hx => hb1.block x hx)) (fun k (hk : k < w.heap.size) => by omega) HSQ.out h7).mono ?_
  rintro e w2 ⟨E, q, z, rfl, hb2, -, -⟩
  go_wp2
  go_ret2
  exact ⟨rfl, hb1.trans hb2⟩
end Go.Proofs.Ytahkihifgafbnaa
