/- Back of both. -/
import Derived.Test.YtahkihifgafbnaaYH
namespace Go.Proofs.Ytahkihifgafbnaa
open Go.RowKit

theorem SqG.form {base : Nat} {w : World} {v : Value} {n : Nat} {f : Nat → Nat → Int} (h : SqG base w v n n f) (h1 : 1 ≤ n) : ∃ g c bs cs, v = .slice (some ⟨g, 0, none⟩) n c ∧ Grid base w (.slice (some ⟨g, 0, none⟩) n c) n bs (fun _ => n) cs f := by
  obtain ⟨bs, cs, h⟩ := h
  obtain ⟨g, c, rfl⟩ := h.form (by omega)
  exact ⟨g, c, bs, cs, rfl, h⟩
/-- Part of the table turned back: the places P are written. -/
def BackAt (w0 : World) (A : Option Addr) (c n : Nat) (bs cs : Nat → Nat) (T : List (List Int)) (w : World) (P : Nat → Nat → Prop) : Prop :=
  Bel w0 w ∧ ∃ f, Grid w0.heap.size w (.slice A n c) n bs (fun _ => n) cs f ∧ ∀ a b, a < n → b < n → P a b → f a b = ent T b a
set_option maxRecDepth 100000 in
set_option maxHeartbeats 4000000 in
theorem back_ok (lo : Nat) (A : Option Addr) (n c : Nat) (T : List (List Int)) (w : World) (hR : Tab lo w A T) (hn : T.length = n) (hE : errT T = 0) :
    Calls Try.prog 69 #[.slice A n c] w fun e w' => ∃ v base, e = .returned (.tuple #[v, .int .i64 0]) ∧ w.heap.size ≤ base ∧ Bel w w' ∧ SqG base w' v n n (fun a b => ent T b a) := by
  obtain ⟨⟨h1, h7⟩, hrw, -⟩ := errT_zero hE
  rw [hn] at h1 h7 hrw
  have hsq := rowsB_square hn hrw
  obtain ⟨g, o, rfl, hgl, hents⟩ := ents_at (hR.toN hsq h1) hsq
  have Ents : Hid (∀ w', Bel w w' → ∀ a b, a < n → b < n → ∃ b' o' c', w'.cell? ⟨g, o + a, none⟩ = some (.slice (some ⟨b', o', none⟩) n c') ∧ w'.cell? ⟨b', o' + b, none⟩ = some (.int .i64 (ent T a b))) := fun w' hw a b ha hb => by
    obtain ⟨b', o', c', hb', k1, k2⟩ := hents a b ha hb
    exact ⟨b', o', c', by rw [hw.use.1 _ _ hgl]; exact k1, by rw [hw.use.1 _ _ hb']; exact k2⟩
  have HE := Lib.hid hE; have Hn := Lib.hid hn; have HSQ := Lib.hid hsq
  clear hents hE hn hrw hsq
  go_enter Try.func69, Try.ntmps69
  go_wp2_with fail
  refine (validate_any lo _ n c T _ hR Hn.out).mono ?_
  rintro e w1 ⟨rfl, hb1⟩
  rw [HE.out]
  go_wp2_with fail
  refine (empty_ok n _ (by omega)).mono ?_
  rintro e w2 ⟨v2, rfl, hb2', hG2⟩
  obtain ⟨g2, c2, bs, cs, rfl, hG⟩ := hG2.form h1
  have hb2 := hb1.trans hb2'
  have hs2 := hb1.size
  have hs3 := hb2'.size
  have hb12 := hb2'
  clear hG2 hb2'
  go_wp2
  go_loopw [6, 7, 18, 22, 23] (fun _ _ i _ _ wr => ∃ x : Nat, x ≤ n ∧ i = .int .i64 x ∧ BackAt w1 (some ⟨g2, 0, none⟩) c2 n bs cs T wr (fun _ b => b < x)) (fun _ _ i _ _ _ => n - (intOf i).toNat)
  case atStart => exact ⟨0, Nat.zero_le _, rfl, hb12, _, hG, fun a b _ _ h => by omega⟩
  case round =>
    obtain ⟨x, hx, rfl, hbx, f, hG, hf⟩ := hrel
    by_cases hxn : x < n
    · have hxi : (x : Int) < (n : Int) := by omega
      have hx0 : (0 : Int) ≤ (x : Int) := by omega
      go_wp2
      go_loopw [7, 23] (fun _ i wr => ∃ y : Nat, y ≤ n ∧ i = .int .i64 y ∧ BackAt w1 (some ⟨g2, 0, none⟩) c2 n bs cs T wr (fun a b => b < x ∨ b = x ∧ a < y)) (fun _ i _ => n - (intOf i).toNat)
      case atStart => exact ⟨0, Nat.zero_le _, rfl, hbx, f, hG, fun a b ha hb h => hf a b ha hb (by omega)⟩
      case round =>
        clear hG hf hbx
        obtain ⟨y, hy, rfl, hby, f, hG, hf⟩ := hrel
        by_cases hyn : y < n
        · have hyi : (y : Int) < (n : Int) := by omega
          have hy0 : (0 : Int) ≤ (y : Int) := by omega
          obtain ⟨b3, o3, c3, f1, f2⟩ := Ents.out wr (hb1.trans hby) x y hxn hyn
          have q1 := hG.cell (i := y) hyn
          obtain ⟨m, hm, hrow⟩ := hG.row y hyn
          have q2 := hrow.cells x hxn
          have q3 := hrow.fz x
          have q4 := hG.lo y hyn
          have HP := Lib.hid (hG.put (i := y) (j := x) hyn hxn (ent T x y))
          have HF := Lib.hid hf
          obtain ⟨b4, hb4⟩ : ∃ b4, b4 = bs y := ⟨_, rfl⟩
          rw [← hb4] at q1 q2 q3 q4 HP hrow
          have hb4l := hrow.lt
          clear hG hf hrow hb4
          go_wp2
          go_region
          go_wp2
          go_roundw
          case rel =>
            exact ⟨y + 1, by omega, by go_num, (hby.setCell q4 _).drew, _, HP.out.bel ((Bel.refl _).drew), fun a b ha hb h => by
              by_cases e : a = y ∧ b = x
              · simp only [if_pos e]
                rw [e.1, e.2]
              · simp only [if_neg e]
                exact HF.out a b ha hb (by omega)⟩
          case measure => simp [intOf]; omega
        · obtain rfl : n = y := by omega
          have HG := Lib.hid hG; have HF := Lib.hid hf
          clear hG hf
          go_wp2
          go_roundw
          case rel => exact ⟨x + 1, by omega, by go_num, hby, f, HG.out, fun a b ha hb h => HF.out a b ha hb (by omega)⟩
          case measure => simp [intOf]; omega
    · obtain rfl : n = x := by omega
      have HG := Lib.hid (hG.congr (ls' := fun _ => n) (f' := fun a b => ent T b a) (fun _ _ => rfl) (fun a b ha hb => (hf a b ha hb (by omega)).symm))
      clear hG hf
      go_wp2
      refine bodyPost_ret (v := .tuple #[.slice (some ⟨g2, 0, none⟩) n c2, .int .i64 0]) (by simp [results, Try.results69, go_sem]) rfl ⟨_, _, rfl, hs2, hb1.trans hbx, _, _, HG.out⟩
set_option maxRecDepth 100000 in
set_option maxHeartbeats 1000000 in
theorem back_err (lo : Nat) (A : Option Addr) (n c : Nat) (T : List (List Int)) (w : World) (hR : Tab lo w A T) (hn : T.length = n) (hE : errT T ≠ 0) :
    Calls Try.prog 69 #[.slice A n c] w fun e w' => e = .returned (.tuple #[.slice none 0 0, .int .i64 (errT T)]) ∧ Bel w w' := by
  have Hn := Lib.hid hn
  have hE' : (errT T != 0) = true := by simpa using hE
  clear hn
  generalize hv : errT T = v at *
  have HV := Lib.hid hv
  clear hv
  go_enter Try.func69, Try.ntmps69
  go_wp2_with fail
  refine (validate_any lo A n c T _ hR Hn.out).mono ?_
  rintro e w1 ⟨rfl, hb1⟩
  rw [HV.out]
  go_wp2
  go_ret2
  exact ⟨rfl, hb1⟩
set_option maxRecDepth 100000 in
set_option maxHeartbeats 4000000 in
theorem rback_ok (lo : Nat) (A : Option Addr) (n c : Nat) (T : List (List Int)) (w : World) (hR : Tab lo w A T) (hn : T.length = n) (hE : errT T = 0) :
    Calls Try.prog 68 #[.slice A n c] w fun e w' => ∃ v base, e = .returned (.tuple #[v, .int .i64 0]) ∧ w.heap.size ≤ base ∧ Bel w w' ∧ SqG base w' v n n (fun a b => ent T b a) := by
  obtain ⟨⟨h1, h7⟩, hrw, -⟩ := errT_zero hE
  rw [hn] at h1 h7 hrw
  have hsq := rowsB_square hn hrw
  obtain ⟨g, o, rfl, hgl, hents⟩ := ents_at (hR.toN hsq h1) hsq
  have Ents : Hid (∀ w', Bel w w' → ∀ a b, a < n → b < n → ∃ b' o' c', w'.cell? ⟨g, o + a, none⟩ = some (.slice (some ⟨b', o', none⟩) n c') ∧ w'.cell? ⟨b', o' + b, none⟩ = some (.int .i64 (ent T a b))) := fun w' hw a b ha hb => by
    obtain ⟨b', o', c', hb', k1, k2⟩ := hents a b ha hb
    exact ⟨b', o', c', by rw [hw.use.1 _ _ hgl]; exact k1, by rw [hw.use.1 _ _ hb']; exact k2⟩
  have HE := Lib.hid hE; have Hn := Lib.hid hn; have HSQ := Lib.hid hsq
  clear hents hE hn hrw hsq
  go_enter Try.func68, Try.ntmps68
  go_wp2_with fail
  refine (rvalidate_any lo _ n c T _ hR Hn.out).mono ?_
  rintro e w1 ⟨rfl, hb1⟩
  rw [HE.out]
  go_wp2_with fail
  refine (rCopy_any _ n c T _ ((hR.low (Nat.zero_le _)).bel hb1) Hn.out (by omega) (fun r hr => by have := HSQ.out.2 r hr; omega)).mono ?_
  rintro e w2 ⟨v2, rfl, hb2', bs, cs, hG2⟩
  have hG3 := hG2.congr (ls' := fun _ => n) (f' := ent T) (fun i hi => by obtain ⟨r, q1, q2, -⟩ := HSQ.out.at_ hi hi; unfold lenT; rw [q1]; exact q2.symm) (fun _ _ _ _ => rfl)
  obtain ⟨g2, c2, rfl⟩ := hG3.form (by omega)
  have hG := hG3
  have hb2 := hb1.trans hb2'
  have hs2 := hb1.size
  have hs3 := hb2'.size
  have hb12 := hb2'
  clear hG2 hG3 hb2'
  go_wp2
  go_loopw [6, 7] (fun i _ wr => ∃ x : Nat, x ≤ n ∧ i = .int .i64 x ∧ BackAt w1 (some ⟨g2, 0, none⟩) c2 n bs cs T wr (fun a _ => a < x)) (fun i _ _ => n - (intOf i).toNat)
  case atStart => exact ⟨0, Nat.zero_le _, rfl, hb12, _, hG, fun a b _ _ h => by omega⟩
  case round =>
    obtain ⟨x, hx, rfl, hbx, f, hG, hf⟩ := hrel
    by_cases hxn : x < n
    · have hxi : (x : Int) < (n : Int) := by omega
      have hx0 : (0 : Int) ≤ (x : Int) := by omega
      go_wp2
      go_loopw [7] (fun i wr => ∃ y : Nat, y ≤ n ∧ i = .int .i64 y ∧ BackAt w1 (some ⟨g2, 0, none⟩) c2 n bs cs T wr (fun a b => a < x ∨ a = x ∧ b < y)) (fun i _ => n - (intOf i).toNat)
      case atStart => exact ⟨0, Nat.zero_le _, rfl, hbx, f, hG, fun a b ha hb h => hf a b ha hb (by omega)⟩
      case round =>
        clear hG hf hbx
        obtain ⟨y, hy, rfl, hby, f, hG, hf⟩ := hrel
        by_cases hyn : y < n
        · have hyi : (y : Int) < (n : Int) := by omega
          have hy0 : (0 : Int) ≤ (y : Int) := by omega
          obtain ⟨b3, o3, c3, f1, f2⟩ := Ents.out wr (hb1.trans hby) y x hyn hxn
          have q1 := hG.cell (i := x) hxn
          obtain ⟨m, hm, hrow⟩ := hG.row x hxn
          have q2 := hrow.cells y hyn
          have q3 := hrow.fz y
          have q4 := hG.lo x hxn
          have HP := Lib.hid (hG.put (i := x) (j := y) hxn hyn (ent T y x))
          have HF := Lib.hid hf
          obtain ⟨b4, hb4⟩ : ∃ b4, b4 = bs x := ⟨_, rfl⟩
          rw [← hb4] at q1 q2 q3 q4 HP hrow
          have hb4l := hrow.lt
          clear hG hf hrow hb4
          go_wp2
          go_region
          go_wp2
          go_roundw
          case rel =>
            exact ⟨y + 1, by omega, by go_num, (hby.setCell q4 _).drew, _, HP.out.bel ((Bel.refl _).drew), fun a b ha hb h => by
              by_cases e : a = x ∧ b = y
              · simp only [if_pos e]
                rw [e.1, e.2]
              · simp only [if_neg e]
                exact HF.out a b ha hb (by omega)⟩
          case measure => simp [intOf]; omega
        · obtain rfl : n = y := by omega
          have HG := Lib.hid hG; have HF := Lib.hid hf
          clear hG hf
          go_wp2
          go_roundw
          case rel => exact ⟨x + 1, by omega, by go_num, hby, f, HG.out, fun a b ha hb h => HF.out a b ha hb (by omega)⟩
          case measure => simp [intOf]; omega
    · obtain rfl : n = x := by omega
      have HG := Lib.hid (hG.congr (ls' := fun _ => n) (f' := fun a b => ent T b a) (fun _ _ => rfl) (fun a b ha hb => (hf a b ha hb (by omega)).symm))
      clear hG hf
      go_wp2
      refine bodyPost_ret (v := .tuple #[.slice (some ⟨g2, 0, none⟩) n c2, .int .i64 0]) (by simp [results, Try.results68, go_sem]) rfl ⟨_, _, rfl, hs2, hb1.trans hbx, _, _, HG.out⟩
set_option maxRecDepth 100000 in
set_option maxHeartbeats 1000000 in
theorem rback_err (lo : Nat) (A : Option Addr) (n c : Nat) (T : List (List Int)) (w : World) (hR : Tab lo w A T) (hn : T.length = n) (hE : errT T ≠ 0) :
    Calls Try.prog 68 #[.slice A n c] w fun e w' => e = .returned (.tuple #[.slice none 0 0, .int .i64 (errT T)]) ∧ Bel w w' := by
  have Hn := Lib.hid hn
  have hE' : (errT T != 0) = true := by simpa using hE
  clear hn
  generalize hv : errT T = v at *
  have HV := Lib.hid hv
  clear hv
  go_enter Try.func68, Try.ntmps68
  go_wp2_with fail
  refine (rvalidate_any lo A n c T _ hR Hn.out).mono ?_
  rintro e w1 ⟨rfl, hb1⟩
  rw [HV.out]
  go_wp2
  go_ret2
  exact ⟨rfl, hb1⟩
end Go.Proofs.Ytahkihifgafbnaa
