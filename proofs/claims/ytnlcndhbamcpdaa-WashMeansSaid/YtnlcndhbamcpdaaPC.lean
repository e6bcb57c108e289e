/-
  The statement WashMeansSaid: for all lots Mean and Middle answer as the document says, the list stays as it was in its spare cells, too, and the known masses come out. No condition.
-/
import Derived.Test.YtnlcndhbamcpdaaT
import Derived.Test.YtnlcndhbamcpdaaU
namespace Go.Proofs.Ytnlcndhbamcpdaa.washMeans
open Go.ChangeShapes Go.WideShapes Go.ChangeAt Go.RowKit Go.Joins

set_option maxHeartbeats 400000 in
theorem inner (A : Option Addr) (n c : Nat) (gs : List (Int × Int)) (w : World) (hR : Prs w A gs) (hn : gs.length = n) :
    Calls Try.prog 32 #[.slice A n c] w fun e w' => e = .returned (.bool true) ∧ Bel w w' := by
  by_cases h40 : 40 < n
  · have hd : decide (40 < n) = true := by simpa using h40
    go_enter Try.func32, Try.ntmps32
    go_wp2_with (first | (go_at_call 41; refine (long_any _ _ _ _).mono ?_; rintro e w' ⟨rfl, rfl⟩) | (go_at_call 24; refine (known_any _).mono ?_; rintro e w1 ⟨rfl, hb1⟩))
    go_ret
    exact ⟨rfl, by (repeat (first | exact Bel.refl _ | assumption | refine Bel.drew ?_ | refine Bel.drewN ?_ _ | refine Bel.alloc ?_ _ | refine Bel.setCell ?_ (by first | omega | (simp; done) | (simp; omega) | (simp at *; omega)) _ | refine Bel.trans ?_ (by assumption)))⟩
  · have hd : decide (40 < n) = false := by simpa using h40
    go_enter Try.func32, Try.ntmps32
    go_wp2_with (go_at_call 41; refine (long_any _ _ _ _).mono ?_; rintro e w' ⟨rfl, rfl⟩)
    obtain ⟨⟨m1, m2, m3⟩, hmv⟩ : ∃ mv, mv = meanV gs := ⟨_, rfl⟩
    have HMV := Lib.hid hmv; clear hmv
    obtain ⟨⟨d1, d2⟩, hdv⟩ : ∃ dv, dv = midV gs := ⟨_, rfl⟩
    have HDV := Lib.hid hdv; clear hdv
    refine (rMean_any A n c gs _ hR hn (by omega)).mono ?_
    rintro e w1 ⟨rfl, hb1⟩
    rw [← HMV.out]
    unfold ratE
    go_wp2_with fail
    refine (rMiddle_any A n c gs _ (hR.bel (by (repeat (first | exact Bel.refl _ | assumption | refine Bel.drew ?_ | refine Bel.drewN ?_ _ | refine Bel.alloc ?_ _ | refine Bel.setCell ?_ (by first | omega | (simp; done) | (simp; omega) | (simp at *; omega)) _ | refine Bel.trans ?_ (by assumption))))) hn (by omega)).mono ?_
    rintro e w2 ⟨rfl, hb2⟩
    rw [← HDV.out]
    unfold intE
    go_wp2_with fail
    refine (wMean_any A n c gs _ (hR.bel (by (repeat (first | exact Bel.refl _ | assumption | refine Bel.drew ?_ | refine Bel.drewN ?_ _ | refine Bel.alloc ?_ _ | refine Bel.setCell ?_ (by first | omega | (simp; done) | (simp; omega) | (simp at *; omega)) _ | refine Bel.trans ?_ (by assumption))))) hn (by omega)).mono ?_
    rintro e w3 ⟨rfl, hb3⟩
    rw [← HMV.out]
    unfold ratE
    go_wp2_with fail
    refine (wMiddle_any A n c gs _ (hR.bel (by (repeat (first | exact Bel.refl _ | assumption | refine Bel.drew ?_ | refine Bel.drewN ?_ _ | refine Bel.alloc ?_ _ | refine Bel.setCell ?_ (by first | omega | (simp; done) | (simp; omega) | (simp at *; omega)) _ | refine Bel.trans ?_ (by assumption))))) hn (by omega)).mono ?_
    rintro e w4 ⟨rfl, hb4⟩
    rw [← HDV.out]
    unfold intE
    have hl3 : w1.heap.size < w3.heap.size := by have h1 := hb2.size; have h2 := hb3.size; simp at h1; omega
    have hb24 : Bel (w1.alloc (.cells #[.int .i64 m1, .int .i64 m2] 29)) w4 := by (repeat (first | exact Bel.refl _ | assumption | refine Bel.drew ?_ | refine Bel.drewN ?_ _ | refine Bel.alloc ?_ _ | refine Bel.setCell ?_ (by first | omega | (simp; done) | (simp; omega) | (simp at *; omega)) _ | refine Bel.trans ?_ (by assumption)))
    have t1 : w4.cell? ⟨w1.heap.size, 0, none⟩ = some (.int .i64 m1) := by rw [hb24.use.1 _ _ (by simp)]; go_simp
    have t2 : w4.cell? ⟨w1.heap.size, 1, none⟩ = some (.int .i64 m2) := by rw [hb24.use.1 _ _ (by simp)]; go_simp
    have t3 : w4.cell? ⟨w3.heap.size, 0, none⟩ = some (.int .i64 m1) := by rw [hb4.use.1 _ _ (by simp)]; go_simp
    have t4 : w4.cell? ⟨w3.heap.size, 1, none⟩ = some (.int .i64 m2) := by rw [hb4.use.1 _ _ (by simp)]; go_simp
    go_wp2_with (go_at_call 24; refine (known_any _).mono ?_; rintro e w7 ⟨rfl, hb7⟩)
    go_ret
    exact ⟨rfl, by (repeat (first | exact Bel.refl _ | assumption | refine Bel.drew ?_ | refine Bel.drewN ?_ _ | refine Bel.alloc ?_ _ | refine Bel.setCell ?_ (by first | omega | (simp; done) | (simp; omega) | (simp at *; omega)) _ | refine Bel.trans ?_ (by assumption)))⟩

set_option maxHeartbeats 400000 in
theorem walk (A : Option Addr) (n c : Nat) (zs : List (Int × Int)) (w : World) (a : Arg2 w A n c zs) :
    Calls Try.prog 11 #[.slice A n c] w fun e w' => e = .returned (.bool true) ∧ Bel w w' := by
  obtain ⟨e1, e2, e3⟩ := a.els
  go_enter Try.func11, Try.ntmps11
  go_wp2_with fail
  refine (keepGrains_any A n c zs _ a.prs a.len a.le a.nil a.reach).mono ?_
  rintro e w1 ⟨A', n', c', rfl, hn', hb1, hr1⟩
  have HN := Lib.hid hn'; clear hn'
  go_wp2_with fail
  refine (inner A n c _ _ (e1.bel hb1) e2).mono ?_
  rintro e w2 ⟨rfl, hb2⟩
  go_wp2_with fail
  refine (keptGrains_any A' A n' c' n c zs _ (hr1.bel hb2) (a.prs.bel (hb1.trans hb2)) HN.out.symm a.len a.le a.nil (reachN_le a.reach (by omega)).1).mono ?_
  rintro e w3 ⟨rfl, hb3⟩
  go_wp2
  go_ret
  exact ⟨rfl, (hb1.trans hb2).trans hb3⟩

set_option maxRecDepth 100000 in
theorem lifted (os : Os) (started : os.Started) (H : Type) (enc : TypeId × Value → H) :
    ReturnsInHanded {} Try.checked os 11 .any (Rows.washMeansSpec.pre6 enc Try.prog Try.f11 Rows.washMeansRow.domain false) (Rows.washMeansSpec.post enc Try.prog Try.f11 false true false false) := by
  refine returnsInHanded_of_change_sized (C := Try.checked) own started (by kernel_rfl) Try.func11
    (ChangeSpec.witness6 (enc := enc) (C := Try.checked) false ⟨#[], #[.slice none 0 0], []⟩ 8 (by kernel_rfl) (by kernel_rfl) (by kernel_rfl) (by kernel_rfl)) ?_
  intro W base args ds gs before hval0 hW hcnd hsz0 _
  have hval : ∀ (j : Nat) t v, Try.f11.params[j]? = some t → args[j]? = some v → Value.okWide Try.prog W .any base t v := hval0
  have hsz : (DataW.weightsEach Try.prog (Try.f11.params.toList ++ Rows.washMeansSpec.plain.varTypes Try.prog) (ds ++ gs)).all (· ≤ reachBytes) = true := hsz0
  have hW' := hW
  obtain ⟨p, q, hA0, hV, rfl, hfz, hnd⟩ := hW
  have hA : DataW.TrodAll enc Try.prog W 0 (fun _ => true) true Try.f11.params.toList args.toList ds p := hA0
  rw [Try.params11] at hA hval hsz
  obtain ⟨v0, vs0, d0, ds0, p0, q0, hargs, rfl, rfl, h0, r0⟩ := trodAll_cons hA
  obtain ⟨rfl, rfl, rfl⟩ := trodAll_nil r0
  obtain rfl : args = #[v0] := by cases args; simp_all
  obtain ⟨rfl, rfl⟩ := trodVars_none hV
  have k0 := h0
  have lt0 : ∀ x ∈ p0, x.block < W.heap.size := by obtain ⟨m, hm⟩ := k0; exact DataW.trod_lt m _ _ _ hm
  have hr0 : ∀ es sp, d0 = .slice es sp → (es.length + sp.length) * 16 ≤ reachN := by
    intro es sp hd
    have := sized_slice (elems := es) (spare := sp) hsz (j := 0) (t := 22) (e := 58) rfl (by rw [hd]; rfl) Try.underlying22
    rw [bytesGrain] at this
    exact this
  obtain ⟨A0, n0, c0, zs0, rfl, a0⟩ := open_arg2 (hval 0 22 v0 rfl rfl) h0 hr0
  clear hA0 hval0
  refine (walk A0 n0 c0 zs0 W a0).mono fun e W' ⟨he, bel⟩ => ?_
  subst he
  exact ⟨_, rfl, _, _, _, [], _, [], hW', trodAll_mk1 (shut_bool Try.underlying4 _), trodAll_cons_mk (Below.trod laidOut (by kernel_rfl) (of_decide_eq_true (by kernel_rfl)) k0 bel lt0) (trodAll_mk0), rfl, Below.frame bel _, fun h => by cases h⟩

theorem over : Rows.washMeansRow.holds Try.pinned (OpenSpec.ofChange Rows.washMeansSpec) :=
  OpenClaim.holds_of_wide 11 Try.f11 rfl rfl rfl rfl rfl rfl rfl ⟨rfl, rfl, rfl, rfl, rfl⟩ rfl rfl rfl rfl rfl (by kernel_rfl) Try.func11 (by kernel_rfl)
    (of_decide_eq_true (by kernel_rfl)) (by unfold Func.isWrapper; rw [if_neg (of_decide_eq_false (by kernel_rfl))]; exact ⟨rfl, rfl⟩)
    (fun os started H enc _ => lifted os started H enc)

/-- The statement. -/
theorem proved : Rows.WashMeansSaid := over
end Go.Proofs.Ytnlcndhbamcpdaa.washMeans
