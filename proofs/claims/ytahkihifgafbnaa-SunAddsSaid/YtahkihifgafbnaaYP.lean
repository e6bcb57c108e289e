/- Rename of both. -/
import Derived.Test.YtahkihifgafbnaaYN
import Derived.Test.YtahkihifgafbnaaYO
namespace Go.Proofs.Ytahkihifgafbnaa
open Go.RowKit

/-- Part of a table filled with F: the places P are written. -/
def FillAt (w0 : World) (A : Option Addr) (c n : Nat) (bs cs : Nat → Nat) (F : Nat → Nat → Int) (w : World) (P : Nat → Nat → Prop) : Prop :=
  Bel w0 w ∧ ∃ f, Grid w0.heap.size w (.slice A n c) n bs (fun _ => n) cs f ∧ ∀ a b, a < n → b < n → P a b → f a b = F a b
set_option maxRecDepth 100000 in
set_option maxHeartbeats 4000000 in
theorem rename_ok (lo : Nat) (A : Option Addr) (n c : Nat) (T : List (List Int)) (B : Option Addr) (d : Nat) (l : List Int) (w : World) (hR : Tab lo w A T) (hn : T.length = n) (hJ : Ints w B l) (hnd : n ≤ d) (hV : errO T l = 0) :
    Calls Try.prog 74 #[.slice A n c, .slice B n d] w fun e w' => ∃ v base, e = .returned (.tuple #[v, .int .i64 0]) ∧ w.heap.size ≤ base ∧ Bel w w' ∧ SqG base w' v n n (fun x y => rnF T l x y) := by
  obtain ⟨hE, hO⟩ := errO_parts hV
  obtain ⟨⟨h1, h7⟩, hrw, -⟩ := errT_zero hE
  rw [hn] at h1 h7 hrw hO
  have hsq := rowsB_square hn hrw
  obtain ⟨g, o, rfl, hgl, hents⟩ := ents_at (hR.toN hsq h1) hsq
  have Ents : Hid (∀ w', Bel w w' → ∀ a b, a < n → b < n → ∃ b' o' c', w'.cell? ⟨g, o + a, none⟩ = some (.slice (some ⟨b', o', none⟩) n c') ∧ w'.cell? ⟨b', o' + b, none⟩ = some (.int .i64 (ent T a b))) := fun w' hw a b ha hb => by
    obtain ⟨b', o', c', hb', k1, k2⟩ := hents a b ha hb
    exact ⟨b', o', c', by rw [hw.use.1 _ _ hgl]; exact k1, by rw [hw.use.1 _ _ hb']; exact k2⟩
  have HE := Lib.hid hE; have Hn := Lib.hid hn; have HSQ := Lib.hid hsq; have HO := Lib.hid hO; have HV := Lib.hid hV
  have hnx : n ≤ maxLen := by unfold maxLen; omega
  clear hents hE hn hrw hsq hO hV
  go_enter Try.func74, Try.ntmps74
  go_wp2_with fail
  refine (validateOrder_any lo _ n c T B n d l _ hR Hn.out hnx hJ HO.out.len hnd hnx).mono ?_
  rintro e w1 ⟨rfl, hb1⟩
  rw [HV.out]
  go_wp2_with fail
  refine (empty_ok n _ (by omega)).mono ?_
  rintro e w2 ⟨v2, rfl, hb12, hG2⟩
  obtain ⟨g2, c2, bs, cs, rfl, hG⟩ := hG2.form h1
  have hs2 := hb1.size
  have hs3 := hb12.size
  clear hG2
  go_wp2
  go_loopw [8, 9, 21, 25, 26] (fun _ _ i _ _ wr => ∃ x : Nat, x ≤ n ∧ i = .int .i64 x ∧ FillAt w1 (some ⟨g2, 0, none⟩) c2 n bs cs (rnF T l) wr (fun a _ => atN l a < x)) (fun _ _ i _ _ _ => n - (intOf i).toNat)
  case atStart => exact ⟨0, Nat.zero_le _, rfl, hb12, _, hG, fun a b _ _ h => by omega⟩
  case round =>
    obtain ⟨x, hx, rfl, hbx, f, hG, hf⟩ := hrel
    by_cases hxn : x < n
    · have hxi : (x : Int) < (n : Int) := by omega
      have hx0 : (0 : Int) ≤ (x : Int) := by omega
      go_wp2
      go_loopw [9, 26] (fun _ i wr => ∃ y : Nat, y ≤ n ∧ i = .int .i64 y ∧ FillAt w1 (some ⟨g2, 0, none⟩) c2 n bs cs (rnF T l) wr (fun a b => atN l a < x ∨ atN l a = x ∧ atN l b < y)) (fun _ i _ => n - (intOf i).toNat)
      case atStart => exact ⟨0, Nat.zero_le _, rfl, hbx, f, hG, fun a b ha hb h => hf a b ha hb (by omega)⟩
      case round =>
        clear hG hf hbx
        obtain ⟨y, hy, rfl, hby, f, hG, hf⟩ := hrel
        by_cases hyn : y < n
        · have hyi : (y : Int) < (n : Int) := by omega
          have hy0 : (0 : Int) ≤ (y : Int) := by omega
          obtain ⟨b3, o3, c3, f1, f2⟩ := Ents.out wr (hb1.trans hby) x y hxn hyn
          obtain ⟨b5, o5, v5, rfl, hbl5, hg5, hc5⟩ := (hJ.bel (hb1.trans hby)).at_ (k := x) (by rw [HO.out.len]; exact hxn)
          obtain ⟨b6, o6, v6, hA6, hbl6, hg6, hc6⟩ := (hJ.bel (hb1.trans hby)).at_ (k := y) (by rw [HO.out.len]; exact hyn)
          obtain ⟨rfl, rfl⟩ : b5 = b6 ∧ o5 = o6 := by simpa using hA6
          obtain ⟨p1, p2, p3⟩ := HO.out.of hxn
          obtain ⟨p4, p5, p6⟩ := HO.out.of hyn
          rw [hg5] at p1
          obtain rfl := Option.some.inj p1
          rw [hg6] at p4
          obtain rfl := Option.some.inj p4
          have q1 := hG.cell (i := ofN l x) p2
          obtain ⟨m, hm, hrow⟩ := hG.row (ofN l x) p2
          have q2 := hrow.cells (ofN l y) p5
          have q3 := hrow.fz (ofN l y)
          have q4 := hG.lo (ofN l x) p2
          have HP := Lib.hid (hG.put (i := ofN l x) (j := ofN l y) p2 p5 (ent T x y))
          have HF := Lib.hid hf
          have HP3 := Lib.hid p3; have HP6 := Lib.hid p6
          obtain ⟨b4, hb4⟩ : ∃ b4, b4 = bs (ofN l x) := ⟨_, rfl⟩
          rw [← hb4] at q1 q2 q3 q4 HP hrow
          obtain ⟨px, hpx⟩ : ∃ px, px = ofN l x := ⟨_, rfl⟩
          obtain ⟨py, hpy⟩ : ∃ py, py = ofN l y := ⟨_, rfl⟩
          rw [← hpx] at q1 q2 HP HP3 hc5 p2
          rw [← hpy] at q2 q3 HP HP6 hc6 p5
          have HPX := Lib.hid hpx; have HPY := Lib.hid hpy
          have hb4l := hrow.lt
          have i1 : (px : Int) < (n : Int) := by omega
          have i2 : (0 : Int) ≤ (px : Int) := by omega
          have i3 : (py : Int) < (n : Int) := by omega
          have i4 : (0 : Int) ≤ (py : Int) := by omega
          clear hG hf hrow hb4 hA6 hg5 hg6 p1 p3 p4 p6 hpx hpy
          go_wp2
          go_region
          go_wp2
          go_roundw
          case rel =>
            exact ⟨y + 1, by omega, by go_num, (hby.setCell q4 _).drew, _, HP.out.bel ((Bel.refl _).drew), fun a b ha hb h => by
              by_cases e : a = px ∧ b = py
              · simp only [if_pos e]
                unfold rnF
                rw [e.1, e.2, HP3.out, HP6.out]
              · simp only [if_neg e]
                refine HF.out a b ha hb ?_
                have k1 := (HO.out.at_ ha).2
                have k2 := (HO.out.at_ hb).2
                rcases h with h | ⟨h, h'⟩
                · exact .inl h
                · refine .inr ⟨h, ?_⟩
                  have : atN l b ≠ y := fun e2 => e ⟨by rw [← k1, h, HPX.out], by rw [← k2, e2, HPY.out]⟩
                  omega⟩
          case measure => simp [intOf]; omega
        · obtain rfl : n = y := by omega
          have HG := Lib.hid hG; have HF := Lib.hid hf
          clear hG hf
          go_wp2
          go_roundw
          case rel => exact ⟨x + 1, by omega, by go_num, hby, f, HG.out, fun a b ha hb h => HF.out a b ha hb (by have := (HO.out.at_ hb).1; omega)⟩
          case measure => simp [intOf]; omega
    · obtain rfl : n = x := by omega
      have HG := Lib.hid (hG.congr (ls' := fun _ => n) (f' := fun a b => rnF T l a b) (fun _ _ => rfl) (fun a b ha hb => (hf a b ha hb (HO.out.at_ ha).1).symm))
      clear hG hf
      go_wp2
      refine bodyPost_ret (v := .tuple #[.slice (some ⟨g2, 0, none⟩) n c2, .int .i64 0]) (by simp [results, Try.results74, go_sem]) rfl ⟨_, _, rfl, hs2, hb1.trans hbx, _, _, HG.out⟩
set_option maxRecDepth 100000 in
set_option maxHeartbeats 1000000 in
theorem rename_err (lo : Nat) (A : Option Addr) (n c : Nat) (T : List (List Int)) (B : Option Addr) (q d : Nat) (l : List Int) (w : World) (hR : Tab lo w A T) (hn : T.length = n) (hnx : n ≤ maxLen) (hJ : Ints w B l) (hq : l.length = q) (hqd : q ≤ d) (hmax : q ≤ maxLen) (hV : errO T l ≠ 0) :
    Calls Try.prog 74 #[.slice A n c, .slice B q d] w fun e w' => e = .returned (.tuple #[.slice none 0 0, .int .i64 (errO T l)]) ∧ Bel w w' := by
  have Hn := Lib.hid hn; have Hq := Lib.hid hq
  have hz' : (errO T l != 0) = true := by simpa using hV
  clear hn hq hV
  generalize hv : errO T l = v at *
  have HV := Lib.hid hv
  clear hv
  go_enter Try.func74, Try.ntmps74
  go_wp2_with fail
  refine (validateOrder_any lo _ n c T B q d l _ hR Hn.out hnx hJ Hq.out hqd hmax).mono ?_
  rintro e w1 ⟨rfl, hb1⟩
  rw [HV.out]
  go_wp2
  exact bodyPost_ret (v := .tuple #[.slice none 0 0, .int .i64 v]) (by simp [results, Try.results74, go_sem]) rfl ⟨rfl, hb1⟩
set_option maxRecDepth 100000 in
set_option maxHeartbeats 4000000 in
theorem rrename_ok (lo : Nat) (A : Option Addr) (n c : Nat) (T : List (List Int)) (B : Option Addr) (d : Nat) (l : List Int) (w : World) (hR : Tab lo w A T) (hn : T.length = n) (hJ : Ints w B l) (_hnd : n ≤ d) (hV : errO T l = 0) :
    Calls Try.prog 72 #[.slice A n c, .slice B n d] w fun e w' => ∃ v base, e = .returned (.tuple #[v, .int .i64 0]) ∧ w.heap.size ≤ base ∧ Bel w w' ∧ SqG base w' v n n (fun x y => rnF T l x y) := by
  obtain ⟨hE, hO⟩ := errO_parts hV
  obtain ⟨⟨h1, h7⟩, hrw, -⟩ := errT_zero hE
  rw [hn] at h1 h7 hrw hO
  have hsq := rowsB_square hn hrw
  obtain ⟨g, o, rfl, hgl, hents⟩ := ents_at (hR.toN hsq h1) hsq
  have Ents : Hid (∀ w', Bel w w' → ∀ a b, a < n → b < n → ∃ b' o' c', w'.cell? ⟨g, o + a, none⟩ = some (.slice (some ⟨b', o', none⟩) n c') ∧ w'.cell? ⟨b', o' + b, none⟩ = some (.int .i64 (ent T a b))) := fun w' hw a b ha hb => by
    obtain ⟨b', o', c', hb', k1, k2⟩ := hents a b ha hb
    exact ⟨b', o', c', by rw [hw.use.1 _ _ hgl]; exact k1, by rw [hw.use.1 _ _ hb']; exact k2⟩
  have HE := Lib.hid hE; have Hn := Lib.hid hn; have HSQ := Lib.hid hsq; have HO := Lib.hid hO; have HV := Lib.hid hV
  have hnx : n ≤ maxLen := by unfold maxLen; omega
  clear hents hE hn hrw hsq hO hV
  go_enter Try.func72, Try.ntmps72
  go_wp2_with fail
  refine (ordered_any lo _ n c T B n d l _ hR Hn.out hnx hJ HO.out.len hnx).mono ?_
  rintro e w1 ⟨rfl, hb1⟩
  rw [HV.out]
  go_wp2_with fail
  refine (rCopy_any _ n c T _ ((hR.low (Nat.zero_le _)).bel hb1) Hn.out (by omega) (fun r hr => by have := HSQ.out.2 r hr; omega)).mono ?_
  rintro e w2 ⟨v2, rfl, hb12, bs, cs, hG2⟩
  have hG := hG2.congr (ls' := fun _ => n) (f' := ent T) (fun i hi => by obtain ⟨r, q1, q2, -⟩ := HSQ.out.at_ hi hi; unfold lenT; rw [q1]; exact q2.symm) (fun _ _ _ _ => rfl)
  obtain ⟨g2, c2, rfl⟩ := hG.form (by omega)
  have hs2 := hb1.size
  have hs3 := hb12.size
  clear hG2
  go_wp2
  go_loopw [8, 9] (fun i _ wr => ∃ x : Nat, x ≤ n ∧ i = .int .i64 x ∧ FillAt w1 (some ⟨g2, 0, none⟩) c2 n bs cs (rnF T l) wr (fun a _ => atN l a < x)) (fun i _ _ => n - (intOf i).toNat)
  case atStart => exact ⟨0, Nat.zero_le _, rfl, hb12, _, hG, fun a b _ _ h => by omega⟩
  case round =>
    obtain ⟨x, hx, rfl, hbx, f, hG, hf⟩ := hrel
    by_cases hxn : x < n
    · have hxi : (x : Int) < (n : Int) := by omega
      have hx0 : (0 : Int) ≤ (x : Int) := by omega
      go_wp2
      go_loopw [9] (fun i wr => ∃ y : Nat, y ≤ n ∧ i = .int .i64 y ∧ FillAt w1 (some ⟨g2, 0, none⟩) c2 n bs cs (rnF T l) wr (fun a b => atN l a < x ∨ atN l a = x ∧ atN l b < y)) (fun i _ => n - (intOf i).toNat)
      case atStart => exact ⟨0, Nat.zero_le _, rfl, hbx, f, hG, fun a b ha hb h => hf a b ha hb (by omega)⟩
      case round =>
        clear hG hf hbx
        obtain ⟨y, hy, rfl, hby, f, hG, hf⟩ := hrel
        by_cases hyn : y < n
        · have hyi : (y : Int) < (n : Int) := by omega
          have hy0 : (0 : Int) ≤ (y : Int) := by omega
          obtain ⟨b3, o3, c3, f1, f2⟩ := Ents.out wr (hb1.trans hby) x y hxn hyn
          obtain ⟨b5, o5, v5, rfl, hbl5, hg5, hc5⟩ := (hJ.bel (hb1.trans hby)).at_ (k := x) (by rw [HO.out.len]; exact hxn)
          obtain ⟨b6, o6, v6, hA6, hbl6, hg6, hc6⟩ := (hJ.bel (hb1.trans hby)).at_ (k := y) (by rw [HO.out.len]; exact hyn)
          obtain ⟨rfl, rfl⟩ : b5 = b6 ∧ o5 = o6 := by simpa using hA6
          obtain ⟨p1, p2, p3⟩ := HO.out.of hxn
          obtain ⟨p4, p5, p6⟩ := HO.out.of hyn
          rw [hg5] at p1
          obtain rfl := Option.some.inj p1
          rw [hg6] at p4
          obtain rfl := Option.some.inj p4
          have q1 := hG.cell (i := ofN l x) p2
          obtain ⟨m, hm, hrow⟩ := hG.row (ofN l x) p2
          have q2 := hrow.cells (ofN l y) p5
          have q3 := hrow.fz (ofN l y)
          have q4 := hG.lo (ofN l x) p2
          have HP := Lib.hid (hG.put (i := ofN l x) (j := ofN l y) p2 p5 (ent T x y))
          have HF := Lib.hid hf
          have HP3 := Lib.hid p3; have HP6 := Lib.hid p6
          obtain ⟨b4, hb4⟩ : ∃ b4, b4 = bs (ofN l x) := ⟨_, rfl⟩
          rw [← hb4] at q1 q2 q3 q4 HP hrow
          obtain ⟨px, hpx⟩ : ∃ px, px = ofN l x := ⟨_, rfl⟩
          obtain ⟨py, hpy⟩ : ∃ py, py = ofN l y := ⟨_, rfl⟩
          rw [← hpx] at q1 q2 HP HP3 hc5 p2
          rw [← hpy] at q2 q3 HP HP6 hc6 p5
          have HPX := Lib.hid hpx; have HPY := Lib.hid hpy
          have hb4l := hrow.lt
          have i1 : (px : Int) < (n : Int) := by omega
          have i2 : (0 : Int) ≤ (px : Int) := by omega
          have i3 : (py : Int) < (n : Int) := by omega
          have i4 : (0 : Int) ≤ (py : Int) := by omega
          clear hG hf hrow hb4 hA6 hg5 hg6 p1 p3 p4 p6 hpx hpy
          go_wp2
          go_region
          go_wp2
          go_roundw
          case rel =>
            exact ⟨y + 1, by omega, by go_num, (hby.setCell q4 _).drew, _, HP.out.bel ((Bel.refl _).drew), fun a b ha hb h => by
              by_cases e : a = px ∧ b = py
              · simp only [if_pos e]
                unfold rnF
                rw [e.1, e.2, HP3.out, HP6.out]
              · simp only [if_neg e]
                refine HF.out a b ha hb ?_
                have k1 := (HO.out.at_ ha).2
                have k2 := (HO.out.at_ hb).2
                rcases h with h | ⟨h, h'⟩
                · exact .inl h
                · refine .inr ⟨h, ?_⟩
                  have : atN l b ≠ y := fun e2 => e ⟨by rw [← k1, h, HPX.out], by rw [← k2, e2, HPY.out]⟩
                  omega⟩
          case measure => simp [intOf]; omega
        · obtain rfl : n = y := by omega
          have HG := Lib.hid hG; have HF := Lib.hid hf
          clear hG hf
          go_wp2
          go_roundw
          case rel => exact ⟨x + 1, by omega, by go_num, hby, f, HG.out, fun a b ha hb h => HF.out a b ha hb (by have := (HO.out.at_ hb).1; omega)⟩
          case measure => simp [intOf]; omega
    · obtain rfl : n = x := by omega
      have HG := Lib.hid (hG.congr (ls' := fun _ => n) (f' := fun a b => rnF T l a b) (fun _ _ => rfl) (fun a b ha hb => (hf a b ha hb (HO.out.at_ ha).1).symm))
      clear hG hf
      go_wp2
      refine bodyPost_ret (v := .tuple #[.slice (some ⟨g2, 0, none⟩) n c2, .int .i64 0]) (by simp [results, Try.results72, go_sem]) rfl ⟨_, _, rfl, hs2, hb1.trans hbx, _, _, HG.out⟩
set_option maxRecDepth 100000 in
set_option maxHeartbeats 1000000 in
theorem rrename_err (lo : Nat) (A : Option Addr) (n c : Nat) (T : List (List Int)) (B : Option Addr) (q d : Nat) (l : List Int) (w : World) (hR : Tab lo w A T) (hn : T.length = n) (hnx : n ≤ maxLen) (hJ : Ints w B l) (hq : l.length = q) (_hqd : q ≤ d) (hmax : q ≤ maxLen) (hV : errO T l ≠ 0) :
    Calls Try.prog 72 #[.slice A n c, .slice B q d] w fun e w' => e = .returned (.tuple #[.slice none 0 0, .int .i64 (errO T l)]) ∧ Bel w w' := by
  have Hn := Lib.hid hn; have Hq := Lib.hid hq
  have hz' : (errO T l != 0) = true := by simpa using hV
  clear hn hq hV
  generalize hv : errO T l = v at *
  have HV := Lib.hid hv
  clear hv
  go_enter Try.func72, Try.ntmps72
  go_wp2_with fail
  refine (ordered_any lo _ n c T B q d l _ hR Hn.out hnx hJ Hq.out hmax).mono ?_
  rintro e w1 ⟨rfl, hb1⟩
  rw [HV.out]
  go_wp2
  exact bodyPost_ret (v := .tuple #[.slice none 0 0, .int .i64 v]) (by simp [results, Try.results72, go_sem]) rfl ⟨rfl, hb1⟩
end Go.Proofs.Ytahkihifgafbnaa
