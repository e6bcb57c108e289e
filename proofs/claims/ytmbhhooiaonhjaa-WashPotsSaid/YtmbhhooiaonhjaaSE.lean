/- The document's Pots. -/
import Derived.Test.YtmbhhooiaonhjaaSD
import Derived.Test.YtmbhhooiaonhjaaY3
import Derived.Test.YtmbhhooiaonhjaaR
import Derived.Deep.RegionHeld3
namespace Go.Proofs.Ytmbhhooiaonhjaa
open Go.RowKit

/-- A fraction of the row k of what Pots answers. -/
def cellK (ts : List Int) (d : Int) (k : Nat) (g : Int × Int) : Int × Int :=
  match ts[k]? with
  | some t => nd (stf d (ts.take k) g.1 g.2 * skn g.1 t d) (d ^ k * d)
  | none => nd (stf d (ts.take k) g.1 g.2) (d ^ k)
theorem rowK_map (gs : List (Int × Int)) (ts : List Int) (d : Int) (k : Nat) : rowK gs ts d k = gs.map (cellK ts d k) := by
  unfold rowK cellK
  cases ts[k]? <;> rfl
theorem allT {ts : List Int} {d : Int} (ht : timesB ts = true) (hd : within d 1 20 = true) {k : Nat} {t : Int} (hg : ts[k]? = some t) : within t 0 100 = true ∧ (within t 0 100 && within d 1 20) = true := by
  simp only [timesB, List.all_eq_true] at ht
  have := ht t (List.mem_of_getElem? hg)
  exact ⟨this, by rw [this, hd]; rfl⟩

set_option maxHeartbeats 1000000 in
theorem rPots_err (A B : Option Addr) (n c m e : Nat) (gs : List (Int × Int)) (ts : List Int) (d : Int) (w : World) (hR : Prs w A gs) (hT : Ints w B ts) (hn : gs.length = n) (hm : ts.length = m) (hmax : n ≤ maxLen) (hmax' : m ≤ maxLen) (hE : potsE gs ts d ≠ 0) :
    Calls Try.prog 17 #[.slice A n c, .slice B m e, .int .i64 d] w fun e w' => e = .returned (.tuple #[.slice none 0 0, .int .i64 (potsE gs ts d)]) ∧ Bel w w' := by
  have Hn := Lib.hid hn; have Hm := Lib.hid hm; clear hn hm
  by_cases he : errV gs = 0
  · have HE := Lib.hid he; clear he
    by_cases h3 : 3 < m
    · have hp : Hid (potsE gs ts d = 3) := by show _ = _; unfold potsE; rw [if_pos HE.out, if_pos (by rw [Hm.out]; exact h3)]
      have h3' : (3 : Int) < (m : Int) := by omega
      rw [hp.out]
      clear hE
      go_enter Try.func17, Try.ntmps17
      go_wp2_with fail
      refine (rvalidate_any A n c gs _ hR Hn.out hmax).mono ?_
      rintro e w1 ⟨rfl, hb1⟩
      rw [HE.out]
      go_wp2
      go_ret2
      exact ⟨rfl, hb1⟩
    · have h3' : ¬ (3 : Int) < (m : Int) := by omega
      have hp : Hid (potsE gs ts d = if (timesB ts && within d 1 20) = true then 0 else 1) := by show _ = _; unfold potsE; rw [if_pos HE.out, if_neg (by rw [Hm.out]; exact h3)]
      have hno : Hid ((timesB ts && within d 1 20) = false) := by
        show _ = _
        cases hb : (timesB ts && within d 1 20)
        · rfl
        · rw [hp.out, hb] at hE; exact absurd rfl hE
      have hp1 : Hid (potsE gs ts d = 1) := by show _ = _; rw [hp.out, hno.out]; rfl
      rw [hp1.out]
      clear hE
      go_enter Try.func17, Try.ntmps17
      go_wp2_with fail
      refine (rvalidate_any A n c gs _ hR Hn.out hmax).mono ?_
      rintro e w1 ⟨rfl, hb1⟩
      rw [HE.out]
      have hT1 := hT.bel hb1
      go_wp2
      go_loop [9] (fun i => ∃ k : Nat, k ≤ m ∧ i = .int .i64 k ∧ timesB (ts.take k) = true) (fun i => m - (intOf i).toNat)
      case atStart => exact ⟨0, Nat.zero_le _, rfl, rfl⟩
      case round =>
        obtain ⟨k, hk, rfl, hall⟩ := hrel
        have HA := Lib.hid hall; clear hall
        by_cases hlt : k < m
        · obtain ⟨b, o, t, rfl, hbl, hg, hc1⟩ := hT1.at_ (k := k) (by rw [Hm.out]; exact hlt)
          have HG := Lib.hid hg; clear hg
          have hkm : (k : Int) < (m : Int) := by omega
          cases hs : (within t 0 100 && within d 1 20)
          · go_wp2_with (go_at_call 36; refine (settling_any _ _ _).mono ?_; rintro e w' ⟨rfl, rfl⟩)
            go_ret2
            exact ⟨rfl, hb1⟩
          · go_wp2_with (go_at_call 36; refine (settling_any _ _ _).mono ?_; rintro e w' ⟨rfl, rfl⟩)
            go_round
            case rel => exact ⟨k + 1, by omega, by go_num, timesB_take HA.out HG.out (by simp only [Bool.and_eq_true] at hs; exact hs.1)⟩
            case measure => simp [intOf]; omega
        · obtain rfl : k = m := by omega
          have hd : within d 1 20 = false := by
            have h1 := HA.out
            rw [List.take_of_length_le (by rw [Hm.out]; omega)] at h1
            have h2 := hno.out
            rw [h1] at h2
            simpa using h2
          have hs : (within 0 0 100 && within d 1 20) = false := by rw [hd]; simp
          clear HA hd
          go_wp2_with (go_at_call 36; refine (settling_any _ _ _).mono ?_; rintro e w' ⟨rfl, rfl⟩)
          go_ret2
          exact ⟨rfl, hb1⟩
  · have hp : Hid (potsE gs ts d = errV gs) := by show _ = _; unfold potsE; rw [if_neg he]
    have hne : (errV gs != 0) = true := by simpa using he
    rw [hp.out]
    clear he hE
    go_enter Try.func17, Try.ntmps17
    go_wp2_with fail
    refine (rvalidate_any A n c gs _ hR Hn.out hmax).mono ?_
    rintro e w1 ⟨rfl, hb1⟩
    go_wp2
    go_ret2
    exact ⟨rfl, hb1⟩
end Go.Proofs.Ytmbhhooiaonhjaa
