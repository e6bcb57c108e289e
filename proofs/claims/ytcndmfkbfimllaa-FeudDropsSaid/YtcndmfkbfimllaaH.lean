/- Validate: the program's and the document's. -/
import Derived.Test.YtcndmfkbfimllaaG
namespace Go.Proofs.Ytcndmfkbfimllaa
open Go.RowKit Go.Maps

/-- Is a feud one of two paints, the smaller one first? -/
def okF (p : Int) (f : Int × Int) : Bool := decide (0 ≤ f.1) && (decide (f.1 < f.2) && decide (f.2 < p))
theorem okF_iff {p : Int} {f : Int × Int} : okF p f = true ↔ 0 ≤ f.1 ∧ f.1 < f.2 ∧ f.2 < p := by simp [okF]
def errF (p : Int) (F : List (Int × Int)) : Int := if 1 ≤ p ∧ p ≤ 7 then if F.all (okF p) = true then if F.Nodup then 0 else 6 else 1 else 1
theorem all_step {p : Int} {F : List (Int × Int)} {k : Nat} {f : Int × Int} (h : F[k]? = some f) : (F.drop k).all (okF p) = (okF p f && (F.drop (k + 1)).all (okF p)) := by
  rw [drop_at h]; rfl
/-- The feuds as natural numbers. -/
def down (F : List (Int × Int)) : List (Nat × Nat) := F.map fun f => (f.1.toNat, f.2.toNat)
theorem up_down {p : Int} {F : List (Int × Int)} (h : F.all (okF p) = true) : up (down F) = F := by
  unfold up down
  rw [List.map_map]
  conv => rhs; rw [← List.map_id F]
  refine List.map_congr_left fun f hf => ?_
  have := okF_iff.1 (List.all_eq_true.1 h f hf)
  simp only [Function.comp, id]
  exact Prod.ext (by simp; omega) (by simp; omega)
theorem down_length (F : List (Int × Int)) : (down F).length = F.length := by simp [down]
theorem down_small {p : Int} (hp : p ≤ 7) {F : List (Int × Int)} (h : F.all (okF p) = true) : Small (down F) := by
  intro g hg
  obtain ⟨f, hf, rfl⟩ := List.mem_map.1 hg
  have := okF_iff.1 (List.all_eq_true.1 h f hf)
  simp only
  omega
theorem up_nodup (G : List (Nat × Nat)) : (up G).Nodup ↔ G.Nodup := by
  unfold up List.Nodup
  rw [List.pairwise_map]
  constructor
  · intro h
    exact h.imp fun hne e => hne (by rw [e])
  · intro h
    exact h.imp fun hne e => hne (by
      simp only [Prod.mk.injEq] at e
      exact Prod.ext (by omega) (by omega))
theorem down_nodup {p : Int} {F : List (Int × Int)} (h : F.all (okF p) = true) : (down F).Nodup ↔ F.Nodup := by
  have := up_nodup (down F)
  rw [up_down h] at this
  exact this.symm
theorem field_shop (x : Int) (m : Option Nat) (w : World) : (Instr.field 70 (.agg #[.int .i64 x, .map m]) 1).run Try.prog w = .ok (.map m) w := by kernel_rfl
theorem pair_box {w w' : World} {p : Int} {A : Option Addr} {n c : Nat} {ty : TypeId} (h : Bel (w.alloc (.cells #[.int .i64 p, .slice A n c] ty)) w') : w'.cell? ⟨w.heap.size, 0, none⟩ = some (.int .i64 p) ∧ w'.cell? ⟨w.heap.size, 1, none⟩ = some (.slice A n c) := by
  refine ⟨?_, ?_⟩ <;> (rw [h.use.1 _ _ (by simp)]; go_simp)
theorem FM.len {w : World} {M : Nat} {G : List (Nat × Nat)} (h : FM w M G) (ty : TypeId) : (Builtin.len_ #[68] ty #[.map (some M)]).run Try.prog w = .ok (.int .i64 (sizeK G)) w := by
  have := h.2.len Try.underlying68 ty
  rw [size_keys h.1] at this
  exact this

theorem err_size {p : Int} {F : List (Int × Int)} {sk k : Nat} (h1 : errF p F = if F.Nodup then 0 else 6) (h2 : (down F).Nodup ↔ F.Nodup) (h3 : sizeK (down F) = k ↔ (down F).Nodup) (h4 : sk = sizeK (down F)) (h5 : sk ≤ k) : errF p F = if sk < k then 6 else 0 := by
  rw [h1]
  rcases (by omega : sk < k ∨ sk = k) with hlt2 | hlt2
  · rw [if_pos hlt2, if_neg (fun hn => by have := h3.2 (h2.2 hn); omega)]
  · rw [if_pos (h2.1 (h3.1 (by omega))), if_neg (by omega)]
set_option maxRecDepth 100000 in
set_option maxHeartbeats 2000000 in
theorem validate_any (p : Int) (A : Option Addr) (n c : Nat) (F : List (Int × Int)) (w : World) (hR : Prs w A F) (hn : F.length = n) (h60 : n ≤ 900) :
    Calls Try.prog 44 #[.agg #[.int .i64 p, .slice A n c]] w fun e w' => e = .returned (.int .i64 (errF p F)) ∧ Bel w w' := by
  have Hn := Lib.hid hn
  have hm : (n : Int) ≤ 900 := by omega
  have hfo := field_shop
  clear hn
  by_cases hp : 1 ≤ p ∧ p ≤ 7
  · obtain ⟨p1, p2⟩ := hp
    have HE : Hid (errF p F = if F.all (okF p) = true then if F.Nodup then 0 else 6 else 1) := by show errF p F = _; unfold errF; rw [if_pos ⟨p1, p2⟩]
    have Held := Lib.hid (fun w' (h : Bel (w.alloc (.cells #[.int .i64 p, .slice A n c] 24)) w') => pair_box h)
    go_enter Try.func44, Try.ntmps44
    go_wp2
    go_loopw [16] (fun i wr => ∃ k : Nat, k ≤ n ∧ i = .int .i64 k ∧ Bel (w.alloc (.cells #[.int .i64 p, .slice A n c] 24)) wr ∧ (F.drop k).all (okF p) = F.all (okF p)) (fun i _ => n - (intOf i).toNat)
    case atStart => exact ⟨0, Nat.zero_le _, rfl, by (repeat (first | exact Bel.refl _ | assumption | refine Bel.drew ?_ | refine Bel.drewN ?_ _ | refine Bel.alloc ?_ _ | refine Bel.setCell ?_ (by first | omega | (simp; done) | (simp; omega) | (simp at *; omega)) _ | refine Bel.trans ?_ (by assumption))), rfl⟩
    case round =>
      obtain ⟨k, hk, rfl, hb, hs⟩ := hrel
      have HS := Lib.hid hs
      have hbw : Bel w wr := ((Bel.refl w).alloc _).trans hb
      obtain ⟨b0, b1⟩ := Held.out _ hb
      have hsz : w.heap.size < wr.heap.size := by have := hb.size; simp at this; omega
      clear hs
      by_cases hlt : k < n
      · obtain ⟨b, o, x, y, rfl, hbl, hg, hc1, hc2⟩ := (hR.bel hbw).at_ (k := k) (by rw [Hn.out]; exact hlt)
        have HG := Lib.hid (all_step (p := p) hg)
        clear hg
        by_cases h1 : 0 ≤ x
        · by_cases h2 : x < y
          · by_cases h3 : y < p
            · have hs2 := Lib.hid (show (F.drop (k + 1)).all (okF p) = F.all (okF p) by rw [← HS.out, HG.out, okF_iff.2 ⟨h1, h2, h3⟩]; rfl)
              go_wp2
              go_roundw
              case rel => exact ⟨k + 1, by omega, by go_num, by (repeat (first | exact Bel.refl _ | assumption | refine Bel.drew ?_ | refine Bel.drewN ?_ _ | refine Bel.alloc ?_ _ | refine Bel.setCell ?_ (by first | omega | (simp; done) | (simp; omega) | (simp at *; omega)) _ | refine Bel.trans ?_ (by assumption))), hs2.out⟩
              case measure => simp [intOf]; omega
            · have h3' : p ≤ y := by omega
              have HF := Lib.hid (show errF p F = 1 by rw [HE.out, ← HS.out, HG.out, if_neg (by intro h; rw [Bool.and_eq_true] at h; have := okF_iff.1 h.1; simp only at this; omega)])
              go_wp2
              go_ret
              exact ⟨ret_int HF.out.symm, by (repeat (first | exact Bel.refl _ | assumption | refine Bel.drew ?_ | refine Bel.drewN ?_ _ | refine Bel.alloc ?_ _ | refine Bel.setCell ?_ (by first | omega | (simp; done) | (simp; omega) | (simp at *; omega)) _ | refine Bel.trans ?_ (by assumption)))⟩
          · have h2' : y ≤ x := by omega
            have HF := Lib.hid (show errF p F = 1 by rw [HE.out, ← HS.out, HG.out, if_neg (by intro h; rw [Bool.and_eq_true] at h; have := okF_iff.1 h.1; simp only at this; omega)])
            go_wp2
            go_ret
            exact ⟨ret_int HF.out.symm, by (repeat (first | exact Bel.refl _ | assumption | refine Bel.drew ?_ | refine Bel.drewN ?_ _ | refine Bel.alloc ?_ _ | refine Bel.setCell ?_ (by first | omega | (simp; done) | (simp; omega) | (simp at *; omega)) _ | refine Bel.trans ?_ (by assumption)))⟩
        · have h1' : x < 0 := by omega
          have HF := Lib.hid (show errF p F = 1 by rw [HE.out, ← HS.out, HG.out, if_neg (by intro h; rw [Bool.and_eq_true] at h; have := okF_iff.1 h.1; simp only at this; omega)])
          go_wp2
          go_ret
          exact ⟨ret_int HF.out.symm, by (repeat (first | exact Bel.refl _ | assumption | refine Bel.drew ?_ | refine Bel.drewN ?_ _ | refine Bel.alloc ?_ _ | refine Bel.setCell ?_ (by first | omega | (simp; done) | (simp; omega) | (simp at *; omega)) _ | refine Bel.trans ?_ (by assumption)))⟩
      · obtain rfl : k = n := by omega
        have hall : F.all (okF p) = true := by rw [← HS.out, List.drop_of_length_le (by rw [Hn.out]; omega)]; rfl
        have HU := Lib.hid (up_down hall); have HSm := Lib.hid (down_small p2 hall)
        have HE2 := Lib.hid (show errF p F = if F.Nodup then 0 else 6 by rw [HE.out, if_pos hall])
        have HND := Lib.hid (down_nodup hall)
        have hsk := sizeK_le (down F)
        have hsn := sizeK_nodup (down F)
        rw [down_length, Hn.out] at hsk hsn
        have HSN := Lib.hid hsn
        obtain ⟨sk, hskk⟩ : ∃ sk, sk = sizeK (down F) := ⟨_, rfl⟩
        rw [← hskk] at hsk
        have HSK := Lib.hid hskk
        clear hall hsn hskk
        have HF := Lib.hid (err_size HE2.out HND.out HSN.out HSK.out hsk)
        clear hbw hsz hlt
        go_wp2
        go_region_with (first | (go_at_call 84; refine (shopOf_any p A k c (down F) _ (by rw [HU.out]; exact hR.bel (by (repeat (first | exact Bel.refl _ | assumption | refine Bel.drew ?_ | refine Bel.drewN ?_ _ | refine Bel.alloc ?_ _ | refine Bel.setCell ?_ (by first | omega | (simp; done) | (simp; omega) | (simp at *; omega)) _ | refine Bel.trans ?_ (by assumption))))) (by rw [down_length]; exact Hn.out) h60 HSm.out).mono ?_; rintro e w2 ⟨M, rfl, hF, hb2, hM⟩; have hlen := hF.len; have hlen2 := FM.len (hF.bel (Bel.refl w2).drew); have hlen3 := fun n => FM.len (hF.bel ((Bel.refl w2).drewN n)); rw [← HSK.out] at hlen; rw [← HSK.out] at hlen2; simp only [← HSK.out] at hlen3; obtain ⟨b2, b3⟩ := Held.out w2 (by (repeat (first | exact Bel.refl _ | assumption | refine Bel.drew ?_ | refine Bel.drewN ?_ _ | refine Bel.alloc ?_ _ | refine Bel.setCell ?_ (by first | omega | (simp; done) | (simp; omega) | (simp at *; omega)) _ | refine Bel.trans ?_ (by assumption))))))
        all_goals
          clear hlen hlen2 hlen3 b2 b3
          go_wp2
          all_goals
            go_ret
            exact ⟨ret_int (by rw [HF.out]; first | rw [if_pos (by omega)] | rw [if_neg (by omega)]), by (repeat (first | exact Bel.refl _ | assumption | refine Bel.drew ?_ | refine Bel.drewN ?_ _ | refine Bel.alloc ?_ _ | refine Bel.setCell ?_ (by first | omega | (simp; done) | (simp; omega) | (simp at *; omega)) _ | refine Bel.trans ?_ (by assumption)))⟩
  · have HE : Hid (errF p F = 1) := by show errF p F = 1; unfold errF; rw [if_neg hp]
    rcases (by omega : p < 1 ∨ 7 < p) with h1 | h1
    · go_enter Try.func44, Try.ntmps44
      go_wp2
      go_ret
      exact ⟨ret_int HE.out.symm, by (repeat (first | exact Bel.refl _ | assumption | refine Bel.drew ?_ | refine Bel.drewN ?_ _ | refine Bel.alloc ?_ _ | refine Bel.setCell ?_ (by first | omega | (simp; done) | (simp; omega) | (simp at *; omega)) _ | refine Bel.trans ?_ (by assumption)))⟩
    · have h2 : 1 ≤ p := by omega
      go_enter Try.func44, Try.ntmps44
      go_wp2
      go_ret
      exact ⟨ret_int HE.out.symm, by (repeat (first | exact Bel.refl _ | assumption | refine Bel.drew ?_ | refine Bel.drewN ?_ _ | refine Bel.alloc ?_ _ | refine Bel.setCell ?_ (by first | omega | (simp; done) | (simp; omega) | (simp at *; omega)) _ | refine Bel.trans ?_ (by assumption)))⟩
end Go.Proofs.Ytcndmfkbfimllaa
