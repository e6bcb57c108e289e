/-
  The statement WeighChecksSaid: for all numbers of lots, plans and pairs of cases CheckBad answers as the document says, and what it accepts is a plan that does not tell; the lists stay as they were in their spare cells, too, and the known answers come out. No condition.
-/
import Derived.Test.YtmckoehkekkldaaAE
import Derived.Test.YtmckoehkekkldaaZA
namespace Go.Proofs.Ytmckoehkekkldaa.weighChecks
open Go.ChangeShapes Go.WideShapes Go.ChangeAt Go.RowKit Go.Joins

theorem errB_tells {n : Int} {P : List Wg} {x y u v : Int} (h : errB n P x y u v = 0) : errV n P = 0 ∧ tellV P n = false := by
  unfold errB at h
  split at h
  · rename_i h1
    obtain ⟨n', x', u', rfl, rfl, rfl, hx, hu, hy, hv, hG⟩ := cases_good h1
    refine ⟨hG.err, ?_⟩
    split at h
    · rename_i h2
      unfold tellV
      rw [if_pos hG.err]
      cases ht : tellB P (n' : Int).toNat
      · rfl
      · have := tells_case (tellB_iff.1 ht) (n := (n' : Int).toNat) (x := x') (u := u') (by omega) (by omega) hy hv
        rw [this] at h2
        cases h2
    · cases h
  · rename_i h1
    exact absurd h h1
theorem box_four {w0 w' : World} {a b c d : Int} {ty : TypeId} (h : Bel (w0.alloc (.cells #[.int .i64 a, .int .i64 b, .int .i64 c, .int .i64 d] ty)) w') :
    w'.cell? ⟨w0.heap.size, 0, none⟩ = some (.int .i64 a) ∧ w'.cell? ⟨w0.heap.size, 1, none⟩ = some (.int .i64 b) ∧ w'.cell? ⟨w0.heap.size, 2, none⟩ = some (.int .i64 c) ∧ w'.cell? ⟨w0.heap.size, 3, none⟩ = some (.int .i64 d) := by
  refine ⟨?_, ?_, ?_, ?_⟩ <;> (rw [h.use.1 _ _ (by simp)]; simp)
set_option maxRecDepth 100000 in
set_option maxHeartbeats 4000000 in
theorem inner (n : Int) (A : Option Addr) (m c : Nat) (P : List Wg) (x y u v : Int) (w : World) (hR : Plan 0 w A P) (hm : P.length = m) (hmax : m ≤ maxLen) :
    Calls Try.prog 28 #[.int .i64 n, .slice A m c, .agg #[.int .i64 x, .int .i64 y, .int .i64 u, .int .i64 v]] w fun e w' => e = .returned (.bool true) ∧ Bel w w' := by
  have Hm := Lib.hid hm
  clear hm
  have HTL := Lib.hid (fun h => @errB_tells n P x y u v h)
  obtain ⟨ev, hev⟩ : ∃ z, z = errV n P := ⟨_, rfl⟩
  obtain ⟨eb, heb⟩ : ∃ z, z = errB n P x y u v := ⟨_, rfl⟩
  obtain ⟨tv, htv⟩ : ∃ z, z = tellV P n := ⟨_, rfl⟩
  have HEV := Lib.hid hev; have HEB := Lib.hid heb; have HTV := Lib.hid htv
  clear hev heb htv
  have Held := Lib.hid (fun w' (h : Bel (w.alloc (.cells #[.int .i64 x, .int .i64 y, .int .i64 u, .int .i64 v] 38)) w') => box_four h)
  have hb0 : Bel w (w.alloc (.cells #[.int .i64 x, .int .i64 y, .int .i64 u, .int .i64 v] 38)) := (Bel.refl w).alloc _
  have hx2 : (eb != eb) = false := by simp
  go_enter Try.func28, Try.ntmps28
  go_wp2_with fail
  refine (long_any 0 A m c P _ (hR.bel hb0) Hm.out hmax).mono ?_
  rintro e w1 ⟨⟨bl, rfl⟩, hw1⟩
  subst hw1
  cases bl with
  | true =>
    go_wp2_with fail
    refine (known_any _).mono ?_
    rintro e w9 ⟨rfl, hb9⟩
    go_wp2
    go_ret
    exact ⟨rfl, hb0.trans hb9⟩
  | false =>
    go_wp2_with fail
    refine (checkBad_any 0 n A m c P x y u v _ (hR.bel hb0) Hm.out).mono ?_
    rintro e w2 ⟨rfl, hb2⟩
    rw [← HEB.out]
    obtain ⟨q0, q1, q2, q3⟩ := Held.out _ hb2
    go_wp2_with fail
    refine (rCheckBad_any 0 n A m c P x y u v _ (hR.bel (hb0.trans hb2)) Hm.out).mono ?_
    rintro e w3 ⟨rfl, hb3⟩
    rw [← HEB.out]
    clear q0 q1 q2 q3
    have hB3 := hb2.trans hb3
    go_wp2_with fail
    refine (tells_any 0 n A m c P _ (hR.bel (hb0.trans hB3)) Hm.out).mono ?_
    rintro e w4 ⟨rfl, hb4⟩
    rw [← HTV.out, ← HEV.out]
    by_cases h0 : eb = 0
    · obtain ⟨h1, h2⟩ := HTL.out (by rw [← HEB.out]; exact h0)
      rw [← HEV.out] at h1
      rw [← HTV.out] at h2
      subst h0 h1 h2
      go_wp2_with fail
      refine (known_any _).mono ?_
      rintro e w9 ⟨rfl, hb9⟩
      go_wp2
      go_ret
      exact ⟨rfl, hb0.trans (hB3.trans (hb4.trans hb9))⟩
    · have h0' : (eb != 0) = true := by simpa using h0
      go_wp2_with fail
      refine (known_any _).mono ?_
      rintro e w9 ⟨rfl, hb9⟩
      go_wp2
      go_ret
      exact ⟨rfl, hb0.trans (hB3.trans (hb4.trans hb9))⟩

set_option maxRecDepth 100000 in
set_option maxHeartbeats 1000000 in
theorem walk (n : Int) (A : Option Addr) (m c : Nat) (Z : List WgZ) (x y u v : Int) (w : World) (hx : ArgP w A m c Z) :
    Calls Try.prog 9 #[.int .i64 n, .slice A m c, .agg #[.int .i64 x, .int .i64 y, .int .i64 u, .int .i64 v]] w fun e w' => e = .returned (.bool true) ∧ Bel w w' := by
  obtain ⟨x1, x2, x3⟩ := hx.els
  have Held := Lib.hid (fun w' (h : Bel (w.alloc (.cells #[.int .i64 x, .int .i64 y, .int .i64 u, .int .i64 v] 38)) w') => box_four h)
  have hb0 : Bel w (w.alloc (.cells #[.int .i64 x, .int .i64 y, .int .i64 u, .int .i64 v] 38)) := (Bel.refl w).alloc _
  go_enter Try.func9, Try.ntmps9
  go_wp2_with fail
  refine (keepWeighings_any A m c Z _ (hx.bel hb0)).mono ?_
  rintro e w1 ⟨A', n', c', rfl, hn', hb1, hr1⟩
  have HN := Lib.hid hn'; clear hn'
  obtain ⟨q0, q1, q2, q3⟩ := Held.out _ hb1
  go_wp2_with fail
  refine (inner n A m c _ x y u v _ (x1.bel (hb0.trans hb1)) x2 x3).mono ?_
  rintro e w2 ⟨rfl, hb2⟩
  go_wp2_with fail
  refine (keptWeighings_any A' A n' c' m c Z _ ((hr1.low (Nat.zero_le _)).bel hb2) (hx.bel (hb0.trans (hb1.trans hb2))) HN.out).mono ?_
  rintro e w3 ⟨rfl, hb3⟩
  go_wp2
  go_ret
  exact ⟨rfl, hb0.trans ((hb1.trans hb2).trans hb3)⟩

set_option maxRecDepth 100000 in
theorem lifted (os : Os) (started : os.Started) (H : Type) (enc : TypeId × Value → H) :
    ReturnsInHanded {} Try.checked os 9 .any (Rows.weighChecksSpec.pre6 enc Try.prog Try.f9 Rows.weighChecksRow.domain false) (Rows.weighChecksSpec.post enc Try.prog Try.f9 false true false false) := by
  refine returnsInHanded_of_change_sized (C := Try.checked) own started (by kernel_rfl) Try.func9
    (ChangeSpec.witness6 (enc := enc) (C := Try.checked) false ⟨#[], #[.int .i64 0, .slice none 0 0, .agg #[.int .i64 0, .int .i64 0, .int .i64 0, .int .i64 0]], []⟩ 8 (by kernel_rfl) (by kernel_rfl) (by kernel_rfl) (by kernel_rfl)) ?_
  intro W base args ds gs before hval0 hW hcnd hsz0 _
  have hval : ∀ (j : Nat) t v, Try.f9.params[j]? = some t → args[j]? = some v → Value.okWide Try.prog W .any base t v := hval0
  have hsz : (DataW.weightsEach Try.prog (Try.f9.params.toList ++ Rows.weighChecksSpec.plain.varTypes Try.prog) (ds ++ gs)).all (· ≤ reachBytes) = true := hsz0
  have hW' := hW
  obtain ⟨p, q, hA0, hV, rfl, hfz, hnd⟩ := hW
  have hA : DataW.TrodAll enc Try.prog W 0 (fun _ => true) true Try.f9.params.toList args.toList ds p := hA0
  rw [Try.params9] at hA hval hsz
  obtain ⟨v0, vs0, d0, ds0, p0, q0, hargs, rfl, rfl, h0, r0⟩ := trodAll_cons hA
  obtain ⟨v1, vs1, d1, ds1, p1, q1, rfl, rfl, rfl, h1, r1⟩ := trodAll_cons r0
  obtain ⟨v2, vs2, d2, ds2, p2, q2, rfl, rfl, rfl, h2, r2⟩ := trodAll_cons r1
  obtain ⟨rfl, rfl, rfl⟩ := trodAll_nil r2
  obtain rfl : args = #[v0, v1, v2] := by cases args; simp_all
  obtain ⟨rfl, rfl⟩ := trodVars_none hV
  have k0 := h0
  have lt0 : ∀ x ∈ p0, x.block < W.heap.size := by obtain ⟨m, hm⟩ := k0; exact DataW.trod_lt m _ _ _ hm
  have k1 := h1
  have lt1 : ∀ x ∈ p1, x.block < W.heap.size := by obtain ⟨m, hm⟩ := k1; exact DataW.trod_lt m _ _ _ hm
  have k2 := h2
  have lt2 : ∀ x ∈ p2, x.block < W.heap.size := by obtain ⟨m, hm⟩ := k2; exact DataW.trod_lt m _ _ _ hm
  obtain ⟨x0, rfl, rfl, rfl, w0⟩ := open_int Try.underlying3 (hval 0 3 v0 rfl rfl) h0
  have hr1 : ∀ k ∈ d1.weights Try.prog 22, k ≤ reachN := fun k hk => by rw [← reach_eq]; simpa using List.all_eq_true.1 hsz k (DataW.weights_mem_each (j := 1) rfl rfl k hk)
  obtain ⟨A1, n1, c1, zs1, rfl, a1⟩ := open_argW (hval 1 22 v1 rfl rfl) h1 hr1
  obtain ⟨x2, y2, z2, u2, rfl⟩ := open_two (hval 2 38 v2 rfl rfl) h2
  clear hA0 hval0
  refine (walk x0 A1 n1 c1 zs1 x2 y2 z2 u2 W a1).mono fun e W' ⟨he, bel⟩ => ?_
  subst he
  exact ⟨_, rfl, _, _, _, [], _, [], hW', trodAll_mk1 (shut_bool Try.underlying4 _), trodAll_cons_mk (shut_int Try.underlying3 w0) (trodAll_cons_mk (Below.trod laidOut (by kernel_rfl) (of_decide_eq_true (by kernel_rfl)) k1 bel lt1) (trodAll_cons_mk (Below.trod laidOut (by kernel_rfl) (of_decide_eq_true (by kernel_rfl)) k2 bel lt2) (trodAll_mk0))), rfl, Below.frame bel _, fun h => by cases h⟩

theorem over : Rows.weighChecksRow.holds Try.pinned (OpenSpec.ofChange Rows.weighChecksSpec) :=
  OpenClaim.holds_of_wide 9 Try.f9 rfl rfl rfl rfl rfl rfl rfl ⟨rfl, rfl, rfl, rfl, rfl⟩ rfl rfl rfl rfl rfl (by kernel_rfl) Try.func9 (by kernel_rfl)
    (of_decide_eq_true (by kernel_rfl)) (by unfold Func.isWrapper; rw [if_neg (of_decide_eq_false (by kernel_rfl))]; exact ⟨rfl, rfl⟩)
    (fun os started H enc _ => lifted os started H enc)

/-- The statement. -/
theorem proved : Rows.WeighChecksSaid := over
end Go.Proofs.Ytmckoehkekkldaa.weighChecks
