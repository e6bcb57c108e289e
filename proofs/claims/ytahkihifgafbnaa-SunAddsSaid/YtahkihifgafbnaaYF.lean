/- Upsets of both. -/
import Derived.Test.YtahkihifgafbnaaYE
namespace Go.Proofs.Ytahkihifgafbnaa
open Go.RowKit

def UpsV (w : World) (T : List (List Int)) (l : List Int) (e : Ending) (w' : World) : Prop := e = .returned (.tuple #[.int .i64 (if errO T l = 0 then (upsC T l : Int) else 0), .int .i64 (errO T l)]) ∧ Bel w w'
theorem errO_parts {T : List (List Int)} {l : List Int} (h : errO T l = 0) : errT T = 0 ∧ Ord T.length l := by
  unfold errO at h
  split at h
  · rename_i h0
    split at h
    · rename_i h1
      exact ⟨h0, h1⟩
    · cases h
  · rename_i h0
    exact absurd h h0
set_option maxRecDepth 100000 in
set_option maxHeartbeats 4000000 in
theorem upsets_any (lo : Nat) (A : Option Addr) (n c : Nat) (T : List (List Int)) (B : Option Addr) (q d : Nat) (l : List Int) (w : World) (hR : Tab lo w A T) (hn : T.length = n) (hnx : n ≤ maxLen) (hJ : Ints w B l) (hq : l.length = q) (hqd : q ≤ d) (hmax : q ≤ maxLen) :
    Calls Try.prog 60 #[.slice A n c, .slice B q d] w (UpsV w T l) := by
  by_cases h0 : errO T l = 0
  · obtain ⟨hE, hO⟩ := errO_parts h0
    obtain ⟨⟨h1, h7⟩, hrw, -⟩ := errT_zero hE
    rw [hn] at h1 h7 hrw hO
    obtain rfl : q = n := by rw [← hq]; exact hO.len
    have hsq := rowsB_square hn hrw
    have hN := hR.toN hsq h1
    have HN := Lib.hid hN; have HSQ := Lib.hid hsq; have HE := Lib.hid h0; have Hn := Lib.hid hn; have Hq := Lib.hid hq; have HO := Lib.hid hO
    clear hE hrw hsq hN hn hq hO h0
    go_enter Try.func60, Try.ntmps60
    go_wp2_with fail
    refine (validateOrder_any lo A q c T B q d l _ hR Hn.out hnx hJ Hq.out hqd hmax).mono ?_
    rintro e w1 ⟨rfl, hb1⟩
    rw [HE.out]
    go_wp2
    go_loopw [7, 8, 9, 18] (fun u _ _ i wr => ∃ k : Nat, k ≤ q ∧ i = .int .i64 k ∧ u = .int .i64 ((upsC T (l.take k) : Nat) : Int) ∧ Bel w wr) (fun _ _ _ i _ => q - (intOf i).toNat)
    case atStart => exact ⟨0, Nat.zero_le _, rfl, rfl, hb1⟩
    case round =>
      obtain ⟨k, hk, rfl, rfl, hb⟩ := hrel
      have hul := upsC_le T (l.take k)
      have hlk : (l.take k).length = k := by rw [List.length_take, Hq.out]; omega
      have hub : upsC T (l.take k) ≤ 49 := by
        rw [hlk] at hul
        have := Nat.mul_le_mul (show k ≤ 7 by omega) (show k ≤ 7 by omega)
        omega
      obtain ⟨up, hup⟩ : ∃ up, up = upsC T (l.take k) := ⟨_, rfl⟩
      rw [← hup] at hub ⊢
      have HUP := Lib.hid hup
      clear hup hul
      by_cases hlt : k < q
      · obtain ⟨b, o, x, rfl, hbl, hg, hc1⟩ := (hJ.bel hb).at_ (k := k) (by rw [Hq.out]; exact hlt)
        have hx := HO.out.rng x (List.mem_of_getElem? hg)
        obtain ⟨s, rfl⟩ : ∃ s : Nat, x = (s : Int) := ⟨x.toNat, by omega⟩
        have hs : s < q := by omega
        have hki : (k : Int) < (q : Int) := by omega
        have hk0 : (0 : Int) ≤ (k : Int) := by omega
        have hkd : (k : Int) ≤ (d : Int) := by omega
        have hIT : Ints wr (some ⟨b, o, none⟩) (l.take k) := (hJ.bel hb).take k
        have HLK := Lib.hid hlk
        have hbt := beatN_le T s (l.take k)
        rw [hlk] at hbt
        have HS := Lib.hid (show upsC T (l.take (k + 1)) = up + beatN T s (l.take k) by rw [take_at hg, upsC_snoc, HUP.out]; simp)
        have HRNG := Lib.hid (show ∀ x ∈ l.take k, 0 ≤ x ∧ x < (q : Int) from fun x hx => HO.out.rng x (List.mem_of_mem_take hx))
        obtain ⟨bt, hbt'⟩ : ∃ bt, bt = beatN T s (l.take k) := ⟨_, rfl⟩
        rw [← hbt'] at hbt HS
        have HBT := Lib.hid hbt'
        clear hg hlk hbt' hx
        go_wp2_with (first | (go_at_call 98; refine (winsOver_any (· < w.heap.size) A q c s T _ k d (l.take k) _ (HN.out.kept (fun x hx => hb.block x hx)) HSQ.out hs hIT HLK.out (by omega) HRNG.out).mono ?_; rintro e w2 ⟨rfl, rfl⟩; rw [← HBT.out]))
        go_roundw
        case rel => exact ⟨k + 1, by omega, by go_num, by rw [HS.out]; go_num, hb⟩
        case measure => simp [intOf]; omega
      · obtain rfl : q = k := by omega
        have HALL := Lib.hid (show up = upsC T l by rw [HUP.out, List.take_of_length_le (by rw [Hq.out]; omega)])
        clear hlk
        go_wp2
        rw [HALL.out]
        exact bodyPost_ret (v := .tuple #[.int .i64 (upsC T l : Int), .int .i64 0]) (by simp [results, Try.results60, go_sem]) rfl ⟨by rw [HE.out, if_pos rfl], hb⟩
  · have Hn := Lib.hid hn; have Hq := Lib.hid hq
    have HZ := Lib.hid h0
    have hE' : (errO T l != 0) = true := by simpa using h0
    clear hn hq h0
    generalize hv : errO T l = v at *
    have HV := Lib.hid hv
    clear hv
    go_enter Try.func60, Try.ntmps60
    go_wp2_with fail
    refine (validateOrder_any lo A n c T B q d l _ hR Hn.out hnx hJ Hq.out hqd hmax).mono ?_
    rintro e w1 ⟨rfl, hb1⟩
    rw [HV.out]
    go_wp2
    exact bodyPost_ret (v := .tuple #[.int .i64 0, .int .i64 v]) (by simp [results, Try.results60, go_sem]) rfl ⟨by rw [HV.out, if_neg HZ.out], hb1⟩
set_option maxRecDepth 100000 in
set_option maxHeartbeats 4000000 in
theorem rupsets_ok (lo : Nat) (A : Option Addr) (n c : Nat) (T : List (List Int)) (B : Option Addr) (d : Nat) (l : List Int) (w : World) (hR : Tab lo w A T) (hn : T.length = n) (hE : errT T = 0) (hJ : Ints w B l) (hO : Ord n l) :
    Calls Try.prog 97 #[.slice A n c, .slice B n d] w fun e w' => e = .returned (.int .i64 (upsC T l : Int)) ∧ Bel w w' := by
  obtain ⟨⟨h1, h7⟩, hrw, -⟩ := errT_zero hE
  rw [hn] at h1 h7 hrw
  have hsq := rowsB_square hn hrw
  have hB := beats_of hn hE
  obtain ⟨g, o, rfl, hgl, hents⟩ := ents_at (hR.toN hsq h1) hsq
  have HB := Lib.hid hB; have HO := Lib.hid hO
  have Ents : Hid (∀ w', Bel w w' → ∀ a b, a < n → b < n → ∃ b' o' c', w'.cell? ⟨g, o + a, none⟩ = some (.slice (some ⟨b', o', none⟩) n c') ∧ w'.cell? ⟨b', o' + b, none⟩ = some (.int .i64 (ent T a b))) := fun w' hw a b ha hb => by
    obtain ⟨b', o', c', hb', k1, k2⟩ := hents a b ha hb
    exact ⟨b', o', c', by rw [hw.use.1 _ _ hgl]; exact k1, by rw [hw.use.1 _ _ hb']; exact k2⟩
  clear hE hrw hsq hents hB hn hO
  go_enter Try.func97, Try.ntmps97
  go_wp2
  go_loopw [5, 6, 7] (fun u i _ wr => ∃ k : Nat, k ≤ n ∧ i = .int .i64 k ∧ u = .int .i64 ((upsC T (l.take k) : Nat) : Int) ∧ Bel w wr) (fun _ i _ _ => n - (intOf i).toNat)
  case atStart => exact ⟨0, Nat.zero_le _, rfl, rfl, Bel.refl _⟩
  case round =>
    obtain ⟨k, hk, rfl, rfl, hb⟩ := hrel
    have hul := upsC_le T (l.take k)
    have hlk : (l.take k).length = k := by rw [List.length_take, HO.out.len]; omega
    have hub : upsC T (l.take k) ≤ 49 := by
      rw [hlk] at hul
      have := Nat.mul_le_mul (show k ≤ 7 by omega) (show k ≤ 7 by omega)
      omega
    obtain ⟨up, hup⟩ : ∃ up, up = upsC T (l.take k) := ⟨_, rfl⟩
    rw [← hup] at hub ⊢
    have HUP := Lib.hid hup
    clear hup hul
    by_cases hlt : k < n
    · obtain ⟨b, oo, x, rfl, hbl, hg, hc1'⟩ := hJ.at_ (k := k) (by rw [HO.out.len]; exact hlt)
      have hx := HO.out.rng x (List.mem_of_getElem? hg)
      obtain ⟨s, rfl⟩ : ∃ s : Nat, x = (s : Int) := ⟨x.toNat, by omega⟩
      have hs : s < n := by omega
      have hki : (k : Int) < (n : Int) := by omega
      have hk0 : (0 : Int) ≤ (k : Int) := by omega
      have HS := Lib.hid (show upsC T (l.take (k + 1)) = up + beatN T s (l.take k) by rw [take_at hg, upsC_snoc, HUP.out]; simp)
      have HLK := Lib.hid hlk
      clear hg hlk hx
      go_wp2
      go_loopw [5, 7] (fun u i wr => ∃ j : Nat, j ≤ k ∧ i = .int .i64 j ∧ u = .int .i64 (((up + beatN T s (l.take j)) : Nat) : Int) ∧ Bel w wr) (fun _ i _ => k - (intOf i).toNat)
      case atStart => exact ⟨0, Nat.zero_le _, rfl, by simp [beatN], hb⟩
      case round =>
        obtain ⟨j, hj, rfl, rfl, hbj⟩ := hrel
        have hbt := beatN_le T s (l.take j)
        have hlj : (l.take j).length ≤ 7 := by rw [List.length_take]; omega
        by_cases hjl : j < k
        · obtain ⟨b2, o2, y, hA2, hbl2, hg2, hc2⟩ := (hJ.bel hbj).at_ (k := j) (by rw [HO.out.len]; omega)
          obtain ⟨rfl, rfl⟩ : b = b2 ∧ oo = o2 := by simpa using hA2
          have hc1 : wr.cell? ⟨b, oo + k, none⟩ = some (.int .i64 (s : Int)) := by rw [hbj.use.1 _ _ hbl]; exact hc1'
          have hy := HO.out.rng y (List.mem_of_getElem? hg2)
          obtain ⟨z, rfl⟩ : ∃ z : Nat, y = (z : Int) := ⟨y.toNat, by omega⟩
          have hz : z < n := by omega
          obtain ⟨b3, o3, c3, f1, f2⟩ := Ents.out wr hbj s z hs hz
          have he := HB.out.one s z hs hz
          have HN := Lib.hid (beatN_next (T := T) (s := s) hg2)
          rw [Int.toNat_natCast] at HN
          obtain ⟨en, hen⟩ : ∃ en, en = ent T s z := ⟨_, rfl⟩
          obtain ⟨bt, hbt'⟩ : ∃ bt, bt = beatN T s (l.take j) := ⟨_, rfl⟩
          rw [← hen] at he f2 HN
          rw [← hbt'] at HN hbt ⊢
          have hji : (j : Int) < (k : Int) := by omega
          have hj0 : (0 : Int) ≤ (j : Int) := by omega
          have hjn : (j : Int) < (n : Int) := by omega
          have hsi : (s : Int) < (n : Int) := by omega
          have hs0 : (0 : Int) ≤ (s : Int) := by omega
          have hzi : (z : Int) < (n : Int) := by omega
          have hz0 : (0 : Int) ≤ (z : Int) := by omega
          clear hen hbt' hA2 hg2 hy
          rcases he with rfl | rfl
          · go_wp2
            go_quiet (fail)
            go_wp2
            go_roundw
            case rel => exact ⟨j + 1, by omega, by go_num, by rw [HN.out]; simp; try go_num, by (repeat (first | exact Bel.refl _ | assumption | refine Bel.drew ?_ | refine Bel.drewN ?_ _ | refine Bel.alloc ?_ _ | refine Bel.setCell ?_ (by first | omega | (simp; done) | (simp; omega) | (simp at *; omega)) _ | refine Bel.trans ?_ (by assumption)))⟩
            case measure => simp [intOf]; omega
          · go_wp2
            go_quiet (fail)
            go_wp2
            go_roundw
            case rel => exact ⟨j + 1, by omega, by go_num, by rw [HN.out]; simp; try go_num, by (repeat (first | exact Bel.refl _ | assumption | refine Bel.drew ?_ | refine Bel.drewN ?_ _ | refine Bel.alloc ?_ _ | refine Bel.setCell ?_ (by first | omega | (simp; done) | (simp; omega) | (simp at *; omega)) _ | refine Bel.trans ?_ (by assumption)))⟩
            case measure => simp [intOf]; omega
        · obtain rfl : k = j := by omega
          go_wp2
          go_roundw
          case rel => exact ⟨k + 1, by omega, by go_num, by rw [HS.out], hbj⟩
          case measure => simp [intOf]; omega
    · obtain rfl : n = k := by omega
      have HALL := Lib.hid (show up = upsC T l by rw [HUP.out, List.take_of_length_le (by rw [HO.out.len]; omega)])
      clear hlk
      go_wp2
      rw [HALL.out]
      go_ret
      exact ⟨rfl, hb⟩
set_option maxRecDepth 100000 in
set_option maxHeartbeats 1000000 in
theorem rUpsets_any (lo : Nat) (A : Option Addr) (n c : Nat) (T : List (List Int)) (B : Option Addr) (q d : Nat) (l : List Int) (w : World) (hR : Tab lo w A T) (hn : T.length = n) (hnx : n ≤ maxLen) (hJ : Ints w B l) (hq : l.length = q) (hmax : q ≤ maxLen) :
    Calls Try.prog 59 #[.slice A n c, .slice B q d] w (UpsV w T l) := by
  by_cases h0 : errO T l = 0
  · obtain ⟨hE, hO⟩ := errO_parts h0
    rw [hn] at hO
    obtain rfl : q = n := by rw [← hq]; exact hO.len
    have HE := Lib.hid h0; have Hn := Lib.hid hn; have Hq := Lib.hid hq; have HO := Lib.hid hO; have HET := Lib.hid hE
    clear hE hn hq hO h0
    go_enter Try.func59, Try.ntmps59
    go_wp2_with fail
    refine (ordered_any lo A q c T B q d l _ hR Hn.out hnx hJ Hq.out hmax).mono ?_
    rintro e w1 ⟨rfl, hb1⟩
    rw [HE.out]
    go_wp2_with fail
    refine (rupsets_ok lo A q c T B d l _ (hR.bel hb1) Hn.out HET.out (hJ.bel hb1) HO.out).mono ?_
    rintro e w2 ⟨rfl, hb2⟩
    go_wp2
    exact bodyPost_ret (v := .tuple #[.int .i64 (upsC T l : Int), .int .i64 0]) (by simp [results, Try.results59, go_sem]) rfl ⟨by rw [HE.out, if_pos rfl], hb1.trans hb2⟩
  · have Hn := Lib.hid hn; have Hq := Lib.hid hq
    have HZ := Lib.hid h0
    have hE' : (errO T l != 0) = true := by simpa using h0
    clear hn hq h0
    generalize hv : errO T l = v at *
    have HV := Lib.hid hv
    clear hv
    go_enter Try.func59, Try.ntmps59
    go_wp2_with fail
    refine (ordered_any lo A n c T B q d l _ hR Hn.out hnx hJ Hq.out hmax).mono ?_
    rintro e w1 ⟨rfl, hb1⟩
    rw [HV.out]
    go_wp2
    exact bodyPost_ret (v := .tuple #[.int .i64 0, .int .i64 v]) (by simp [results, Try.results59, go_sem]) rfl ⟨by rw [HV.out, if_neg HZ.out], hb1⟩
end Go.Proofs.Ytahkihifgafbnaa
