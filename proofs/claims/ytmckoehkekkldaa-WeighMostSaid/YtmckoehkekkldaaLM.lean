/-
  The statement WeighMostSaid: for all numbers Most and CanTell answer as the document says, and the known answers come out. No condition.
-/
import Derived.Test.YtmckoehkekkldaaUE
import Derived.Test.YtmckoehkekkldaaZ
namespace Go.Proofs.Ytmckoehkekkldaa.weighMost
open Go.ChangeShapes Go.WideShapes Go.ChangeAt Go.RowKit Go.Joins

theorem can_le {a k : Int} (h : canV a k = true) : a ≤ mostN k := by
  unfold canV at h
  split at h
  · simp only [Bool.and_eq_true, decide_eq_true_eq] at h
    exact h.2
  · cases h
set_option maxRecDepth 100000 in
set_option maxHeartbeats 1000000 in
theorem walk (a k : Int) (w : World) :
    Calls Try.prog 11 #[.int .i64 a, .int .i64 k] w fun e w' => e = .returned (.bool true) ∧ Bel w w' := by
  have HLE := Lib.hid (fun h => @can_le a k h)
  obtain ⟨mv, hmv⟩ : ∃ v, v = mostN k := ⟨_, rfl⟩
  obtain ⟨em, hem⟩ : ∃ v, v = errM k := ⟨_, rfl⟩
  obtain ⟨cv, hcv⟩ : ∃ v, v = canV a k := ⟨_, rfl⟩
  obtain ⟨ec, hec⟩ : ∃ v, v = errN a k := ⟨_, rfl⟩
  have HMV := Lib.hid hmv; have HEM := Lib.hid hem; have HCV := Lib.hid hcv; have HEC := Lib.hid hec
  clear hmv hem hcv hec
  rw [← HCV.out, ← HMV.out] at HLE
  go_enter Try.func11, Try.ntmps11
  go_wp2_with fail
  refine (rMost_any k _).mono ?_
  rintro e w1 ⟨rfl, hb1⟩
  rw [← HMV.out, ← HEM.out]
  go_wp2_with fail
  refine (rCanTell_any a k _).mono ?_
  rintro e w2 ⟨rfl, hb2⟩
  rw [← HCV.out, ← HEC.out]
  go_wp2_with fail
  refine (most_any k _).mono ?_
  rintro e w3 ⟨rfl, hw3⟩
  subst hw3
  rw [← HMV.out, ← HEM.out]
  go_wp2_with fail
  refine (canTell_any a k _).mono ?_
  rintro e w3 ⟨rfl, hw3⟩
  subst hw3
  rw [← HCV.out, ← HEC.out]
  have hx1 : (mv == mv) = true := by simp
  have hx2 : (em == em) = true := by simp
  have hx3 : (ec == ec) = true := by simp
  cases cv
  · go_wp2_with fail
    refine (known_any _).mono ?_
    rintro e w9 ⟨rfl, hb9⟩
    go_wp2
    go_ret
    exact ⟨rfl, (hb1.trans hb2).trans hb9⟩
  · have hle : a ≤ mv := HLE.out rfl
    go_wp2_with fail
    refine (known_any _).mono ?_
    rintro e w9 ⟨rfl, hb9⟩
    go_wp2
    go_ret
    exact ⟨rfl, (hb1.trans hb2).trans hb9⟩

set_option maxRecDepth 100000 in
theorem lifted (os : Os) (started : os.Started) (H : Type) (enc : TypeId × Value → H) :
    ReturnsInHanded {} Try.checked os 11 .any (Rows.weighMostSpec.pre6 enc Try.prog Try.f11 Rows.weighMostRow.domain false) (Rows.weighMostSpec.post enc Try.prog Try.f11 false true false false) := by
  refine returnsInHanded_of_change_sized (C := Try.checked) own started (by kernel_rfl) Try.func11
    (ChangeSpec.witness6 (enc := enc) (C := Try.checked) false ⟨#[], #[.int .i64 0, .int .i64 0], []⟩ 8 (by kernel_rfl) (by kernel_rfl) (by kernel_rfl) (by kernel_rfl)) ?_
  intro W base args ds gs before hval0 hW hcnd hsz0 _
  have hval : ∀ (j : Nat) t v, Try.f11.params[j]? = some t → args[j]? = some v → Value.okWide Try.prog W .any base t v := hval0
  have hsz : (DataW.weightsEach Try.prog (Try.f11.params.toList ++ Rows.weighMostSpec.plain.varTypes Try.prog) (ds ++ gs)).all (· ≤ reachBytes) = true := hsz0
  have hW' := hW
  obtain ⟨p, q, hA0, hV, rfl, hfz, hnd⟩ := hW
  have hA : DataW.TrodAll enc Try.prog W 0 (fun _ => true) true Try.f11.params.toList args.toList ds p := hA0
  rw [Try.params11] at hA hval hsz
  obtain ⟨v0, vs0, d0, ds0, p0, q0, hargs, rfl, rfl, h0, r0⟩ := trodAll_cons hA
  obtain ⟨v1, vs1, d1, ds1, p1, q1, rfl, rfl, rfl, h1, r1⟩ := trodAll_cons r0
  obtain ⟨rfl, rfl, rfl⟩ := trodAll_nil r1
  obtain rfl : args = #[v0, v1] := by cases args; simp_all
  obtain ⟨rfl, rfl⟩ := trodVars_none hV
  have k0 := h0
  have lt0 : ∀ x ∈ p0, x.block < W.heap.size := by obtain ⟨m, hm⟩ := k0; exact DataW.trod_lt m _ _ _ hm
  have k1 := h1
  have lt1 : ∀ x ∈ p1, x.block < W.heap.size := by obtain ⟨m, hm⟩ := k1; exact DataW.trod_lt m _ _ _ hm
  obtain ⟨x0, rfl, rfl, rfl, w0⟩ := open_int Try.underlying3 (hval 0 3 v0 rfl rfl) h0
  obtain ⟨x1, rfl, rfl, rfl, w1⟩ := open_int Try.underlying3 (hval 1 3 v1 rfl rfl) h1
  clear hA0 hval0
  refine (walk x0 x1 W ).mono fun e W' ⟨he, bel⟩ => ?_
  subst he
  exact ⟨_, rfl, _, _, _, [], _, [], hW', trodAll_mk1 (shut_bool Try.underlying4 _), trodAll_cons_mk (shut_int Try.underlying3 w0) (trodAll_cons_mk (shut_int Try.underlying3 w1) (trodAll_mk0)), rfl, Below.frame bel _, fun h => by cases h⟩

theorem over : Rows.weighMostRow.holds Try.pinned (OpenSpec.ofChange Rows.weighMostSpec) :=
  OpenClaim.holds_of_wide 11 Try.f11 rfl rfl rfl rfl rfl rfl rfl ⟨rfl, rfl, rfl, rfl, rfl⟩ rfl rfl rfl rfl rfl (by kernel_rfl) Try.func11 (by kernel_rfl)
    (of_decide_eq_true (by kernel_rfl)) (by unfold Func.isWrapper; rw [if_neg (of_decide_eq_false (by kernel_rfl))]; exact ⟨rfl, rfl⟩)
    (fun os started H enc _ => lifted os started H enc)

/-- The statement. -/
theorem proved : Rows.WeighMostSaid := over
end Go.Proofs.Ytmckoehkekkldaa.weighMost
