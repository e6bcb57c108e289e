/- sole, walked. -/
import Derived.Test.YtfjegdejfccgaaaZH
import Derived.Test.YtfjegdejfccgaaaZK
namespace Go.Proofs.Ytfjegdejfccgaaa
open Go.RowKit

theorem Ints.cell_ {w : World} {b o k : Nat} {ns : List Int} {x : Int} (h : Ints w (some ⟨b, o, none⟩) ns) (hg : ns[k]? = some x) : w.cell? ⟨b, o + k, none⟩ = some (.int .i64 x) := by
  rcases h with rfl | ⟨b', o', hA, _, hc⟩
  · simp at hg
  · injection hA with hA
    injection hA with e1 e2
    subst e1 e2
    exact hc k x hg
theorem redTo_cols (F : Nat → Nat → Int) (m : Nat) : ∀ c, ∀ x ∈ (redTo F m c).2, 0 ≤ x ∧ x < (c : Int)
  | 0 => fun x hx => by cases hx
  | c + 1 => by
    have ih := redTo_cols F m c
    intro x hx
    simp only [redTo] at hx
    unfold redS at hx
    split at hx
    · have := ih x hx; omega
    · rcases List.mem_append.1 hx with h | h
      · have := ih x h; omega
      · simp at h; omega
def colN (cols : List Int) (k : Nat) : Nat := (cols.getD k 0).toNat
def ownI (G : Nat → Nat → Int) (cols : List Int) (k : Nat) : Int := G k (colN cols k)
def scTo (G : Nat → Nat → Int) (cols : List Int) : Nat → Int
  | 0 => 1
  | k + 1 => scTo G cols k * (ownI G cols k).tdiv (gcdI (scTo G cols k) (ownI G cols k))
def soTo (G : Nat → Nat → Int) (cols : List Int) (f : Nat) : Nat → Nat → Int
  | 0 => fun j => if j = f then scTo G cols cols.length else 0
  | k + 1 => fun j => if j = colN cols k then -(G k f) * (scTo G cols cols.length).tdiv (ownI G cols k) else soTo G cols f k j
/-- What sole needs, so that no number is too large. -/
structure SoleOK (G : Nat → Nat → Int) (cols : List Int) (f : Nat) : Prop where
  f6 : f < 6
  out : hasB cols (f : Int) = false
  all : ∀ j, j < f → hasB cols (j : Int) = true
  own : ∀ k, k < cols.length → ownI G cols k ≠ 0
  sc : ∀ k, k ≤ cols.length → -1000000000 ≤ scTo G cols k ∧ scTo G cols k ≤ 1000000000
theorem soTo_f {G : Nat → Nat → Int} {cols : List Int} {f : Nat} (h : hasB cols (f : Int) = false) (hc : ∀ x ∈ cols, 0 ≤ x) : ∀ k, k ≤ cols.length → soTo G cols f k f = scTo G cols cols.length
  | 0, _ => by simp [soTo]
  | k + 1, hk => by
    simp only [soTo]
    have hg : cols[k]? = some cols[k] := List.getElem?_eq_getElem (by omega)
    have hne : f ≠ colN cols k := by
      intro e
      have h0 := hc cols[k] (List.getElem_mem _)
      have : (f : Int) = cols[k] := by unfold colN at e; rw [getD_at hg] at e; omega
      rw [hasB_iff.2 (by rw [this]; exact List.getElem_mem _)] at h
      cases h
    rw [if_neg hne]
    exact soTo_f h hc k (by omega)
theorem gcd_pos {a b : Int} (h : b ≠ 0) : 1 ≤ gcdI a b := by
  unfold gcdI Int.gcd
  have : 0 < a.natAbs.gcd b.natAbs := Nat.gcd_pos_of_pos_right _ (by omega)
  omega
theorem soTo_bd {G : Nat → Nat → Int} {cols : List Int} {f : Nat} (f6 : f < 6) (hG : ∀ k, k < cols.length → Fit (G k)) (hs : -1000000000 ≤ scTo G cols cols.length ∧ scTo G cols cols.length ≤ 1000000000) : ∀ k, k ≤ cols.length → ∀ i, -4000000000000000000 ≤ soTo G cols f k i ∧ soTo G cols f k i ≤ 4000000000000000000
  | 0, _, i => by
    simp only [soTo]
    split <;> omega
  | k + 1, hk, i => by
    simp only [soTo]
    split
    · have h1 := hG k (by omega) f f6
      have h2 := tdiv_bd (b := ownI G cols k) hs
      have h3 := mulB (x := -(G k f)) (y := (scTo G cols cols.length).tdiv (ownI G cols k)) (by omega) (by omega) h2.1 h2.2
      omega
    · exact soTo_bd f6 hG hs k (by omega) i
/-- A line and whether it is one. -/
def SoleAt (w : World) (f : Nat → Int) (b : Bool) (e : Ending) (w' : World) : Prop := e = .returned (.tuple #[V6 f, .bool b]) ∧ Bel w w'
set_option maxRecDepth 100000 in
set_option maxHeartbeats 4000000 in
theorem sole_ok (g0 m c0 wd f : Nat) (F : Nat → Nat → Int) (w : World) (hM : Mat w g0 m F) (h1 : 1 ≤ m) (hm : m ≤ 20) (hfit : Fits F m) (hwd : wd = (redTo F m 6).2.length + 1) (hok : SoleOK (redTo F m 6).1 (redTo F m 6).2 f) :
    Calls Try.prog 118 #[.slice (some ⟨g0, 0, none⟩) m c0, .int .i64 (wd : Int)] w (SoleAt w (loF (soTo (redTo F m 6).1 (redTo F m 6).2 f (redTo F m 6).2.length)) true) := by
  have hfk := hfit 6 (Nat.le_refl _)
  have hcm := (redTo_len F m 6)
  have hcs := redTo_cols F m 6
  have HFT := Lib.hid hfit
  obtain ⟨G, hG⟩ : ∃ G, G = (redTo F m 6).1 := ⟨_, rfl⟩
  obtain ⟨cols, hcols⟩ : ∃ cols, cols = (redTo F m 6).2 := ⟨_, rfl⟩
  rw [← hG] at hok hfk ⊢
  rw [← hcols] at hok hcm hcs hwd ⊢
  have HG := Lib.hid hG; have HC := Lib.hid hcols
  obtain ⟨f6, hout, hall, hown, hsc⟩ := hok
  have HFK := Lib.hid hfk; have HCS := Lib.hid hcs; have HOUT := Lib.hid hout; have HALL := Lib.hid hall; have HOWN := Lib.hid hown; have HSC := Lib.hid hsc
  have HSF := Lib.hid (fun k h => soTo_f (G := G) hout (fun x hx => (hcs x hx).1) k h)
  obtain ⟨hc6, hcm'⟩ := hcm
  have hf6i : (f : Int) < 6 := by omega
  have hwd1 : (wd : Int) - 1 = (cols.length : Int) := by omega
  obtain ⟨N, hN⟩ : ∃ N, N = cols.length := ⟨_, rfl⟩
  rw [← hN] at hc6 hcm' hwd1 HSC HSF HOWN ⊢
  have HN := Lib.hid hN
  have HWD := Lib.hid hwd1
  have hwi : (wd : Int) ≤ 7 := by omega
  have hwi0 : (1 : Int) ≤ (wd : Int) := by omega
  have hNi : (N : Int) ≤ 6 := by omega
  clear hfit hG hcols hfk hcs hout hall hown hsc hwd hN hwd1
  go_enter Try.func118, Try.ntmps118
  go_wp2_with fail
  refine (reduced_any g0 m c0 F _ (hM.bel (by (repeat (first | exact Bel.refl _ | assumption | refine Bel.drew ?_ | refine Bel.drewN ?_ _ | refine Bel.alloc ?_ _ | refine Bel.setCell ?_ (by first | omega | (simp; done) | (simp; omega) | (simp at *; omega)) _ | refine Bel.trans ?_ (by assumption))))) h1 hm HFT.out).mono ?_
  rintro e w1 ⟨g, cap, A1, n1, c1, rfl, hb1, hM1, hg1, hn1, hI1⟩
  rw [← HC.out] at hn1 hI1
  rw [← HG.out] at hM1
  have hn1' : n1 = N := by rw [hn1, HN.out]
  subst hn1'
  have hzr := (Row.zero w 79).bel hb1
  have HZR := Lib.hid hzr
  have hw1 : Bel w w1 := ((Bel.refl w).alloc _).trans hb1
  have hg1' : w.heap.size < g := by simp at hg1; omega
  have hne : ((n1 : Int) != (wd : Int) - 1) = false := by rw [HWD.out]; simp
  have HM1 := Lib.hid hM1
  clear hn1 hzr hM1 hg1
  go_wp2
  go_loop [7] (fun i => ∃ k : Nat, k ≤ f ∧ i = .int .i64 k) (fun i => f - (intOf i).toNat)
  case atStart => exact ⟨0, Nat.zero_le _, rfl⟩
  case round =>
    obtain ⟨k, hk, rfl⟩ := hrel
    by_cases hkf : k < f
    · have HB := Lib.hid (HALL.out k hkf)
      go_wp2_with fail
      refine (contains_any A1 n1 c1 cols (k : Int) _ hI1 HN.out.symm (by unfold maxLen; omega)).mono ?_
      rintro e w2 ⟨rfl, rfl⟩
      rw [HB.out]
      go_wp2
      go_round
      case rel => exact ⟨k + 1, by omega, by go_num⟩
      case measure => simp [intOf]; omega
    · obtain rfl : k = f := by omega
      go_wp2_with fail
      refine (contains_any A1 n1 c1 cols (k : Int) _ hI1 HN.out.symm (by unfold maxLen; omega)).mono ?_
      rintro e w2 ⟨rfl, rfl⟩
      rw [HOUT.out]
      go_wp2_with fail
      refine (unit_any k _ f6).mono ?_
      rintro e w3 ⟨rfl, hb3⟩
      obtain ⟨W, hW⟩ : ∃ W, W = w3.alloc (.cells #[.int .i64 (unitF k 0), .int .i64 (unitF k 1), .int .i64 (unitF k 2), .int .i64 (unitF k 3), .int .i64 (unitF k 4), .int .i64 (unitF k 5)] 79) := ⟨_, rfl⟩
      have hr0 := row6 w3 (unitF k) 79
      rw [← hW] at hr0
      have hbW : Bel w1 W := by rw [hW]; exact hb3.alloc _
      have HW := Lib.hid hW
      have HR0 := Lib.hid (hr0.congr (f' := fun j => if j = k then scTo G cols 0 else 0) (fun j _ => rfl))
      have hpg : g < w3.heap.size := Nat.lt_of_lt_of_le HM1.out.lt hb3.size
      have hp0 : w.heap.size < w3.heap.size := by omega
      obtain ⟨p, hp⟩ : ∃ p, p = w3.heap.size := ⟨_, rfl⟩
      rw [← hp] at HR0 hpg hp0
      have HP := Lib.hid hp
      have HMW := Lib.hid (HM1.out.bel hbW); have HZW := Lib.hid (HZR.out.bel hbW); have HIW := Lib.hid (hI1.bel hbW)
      have hwW : Bel w W := hw1.trans hbW
      clear hW hr0 hp
      go_wp2
      rw [← HW.out, ← HP.out]
      go_loopw [36] (fun i wr => ∃ q : Nat, q ≤ n1 ∧ i = .int .i64 q ∧ Row wr p 6 6 (fun j => if j = k then scTo G cols q else 0) ∧ Mat wr g m G ∧ Row wr w.heap.size 6 6 (fun _ => 0) ∧ Ints wr A1 cols ∧ Bel w wr) (fun i _ => n1 - (intOf i).toNat)
      case atStart => exact ⟨0, Nat.zero_le _, rfl, HR0.out, HMW.out, HZW.out, HIW.out, hwW⟩
      case round =>
        clear HR0 HMW HZW HIW hwW
        obtain ⟨q, hq, rfl, hR, hMq, hZq, hIq, hbq⟩ := hrel
        by_cases hlt : q < n1
        · have hqi : (q : Int) < (n1 : Int) := by omega
          obtain ⟨b3, o3, x, rfl, hbl1, hg3, _⟩ := hI1.at_ (k := q) (by rw [← HN.out]; exact hlt)
          have hc3 := hIq.cell_ hg3
          have HPB := Lib.hid (show b3 < p by have := hb3.size; have := HP.out; omega)
          obtain ⟨x0, x6⟩ := HCS.out x (List.mem_of_getElem? hg3)
          obtain ⟨c, hc⟩ : ∃ c : Nat, x = (c : Int) := ⟨x.toNat, by omega⟩
          subst hc
          have hc6 : c < 6 := by omega
          have hcol : colN cols q = c := by unfold colN; rw [getD_at hg3]; omega
          have how : ownI G cols q = G q c := by unfold ownI; rw [hcol]
          have hv0 := HOWN.out q hlt
          rw [how] at hv0
          have hvb := HFK.out q (by omega) c hc6
          obtain ⟨v, hv⟩ : ∃ v, v = G q c := ⟨_, rfl⟩
          have hcv := hMq.cells q c (by omega) hc6
          rw [← hv] at hv0 hvb hcv how
          obtain ⟨v1, v9⟩ := hvb
          obtain ⟨s1, s9⟩ := HSC.out q (by omega)
          obtain ⟨t1, t9⟩ := HSC.out (q + 1) (by omega)
          have hnx : scTo G cols (q + 1) = scTo G cols q * v.tdiv (gcdI (scTo G cols q) v) := by rw [scTo, how]
          have hcs := hR.cells k f6
          rw [if_pos rfl] at hcs
          obtain ⟨S, hS⟩ : ∃ S, S = scTo G cols q := ⟨_, rfl⟩
          obtain ⟨S', hS'⟩ : ∃ S', S' = scTo G cols (q + 1) := ⟨_, rfl⟩
          rw [← hS] at s1 s9 hcs hnx
          rw [← hS'] at t1 t9 hnx
          have HSS := Lib.hid hS
          have hD1 := gcd_pos (a := S) hv0
          have hdb := tdiv_bd (b := gcdI S v) ⟨v1, v9⟩
          obtain ⟨D, hD⟩ : ∃ D, D = gcdI S v := ⟨_, rfl⟩
          rw [← hD] at hD1 hdb hnx
          have HD := Lib.hid hD
          have hDz : (D == 0) = false := by simpa using (show ¬ D = 0 by omega)
          have hDn : ¬ D = 0 := by omega
          obtain ⟨u1, u9⟩ := hdb
          obtain ⟨Q, hQ⟩ : ∃ Q, Q = v.tdiv D := ⟨_, rfl⟩
          rw [← hQ] at hnx u1 u9
          have k1 : IntKind.i64.wrap (v.tdiv D) = Q := by rw [← hQ]; exact IntWalk.i64_in _ (by omega)
          have k2 : IntKind.i64.wrap (S * Q) = S' := by rw [← hnx]; exact IntWalk.i64_in _ (by omega)
          have HS' := Lib.hid hS'
          have hqm : (q : Int) < (m : Int) := by omega
          have hci6 : (c : Int) < 6 := by omega
          have hmi : (m : Int) ≤ 20 := by omega
          have HR := Lib.hid hR; have HMq := Lib.hid hMq; have HZq := Lib.hid hZq; have HIq := Lib.hid hIq
          have hpl := hR.lt
          clear hg3 hcol how hv hnx hS hS' hD hQ hR hMq hZq hIq
          go_wp2
          go_region_with (go_at_call 128; refine (divisor_any S v _ (by omega) (by omega)).mono ?_; rintro e w5 ⟨rfl, hb5⟩; rw [← HD.out]; have hbw5 : Bel wr w5 := (by (repeat (first | exact Bel.refl _ | assumption | refine Bel.drew ?_ | refine Bel.drewN ?_ _ | refine Bel.alloc ?_ _ | refine Bel.setCell ?_ (by first | omega | (simp; done) | (simp; omega) | (simp at *; omega)) _ | refine Bel.trans ?_ (by assumption)))); have hcs5 := (HR.out.bel hbw5).cells k f6; rw [if_pos rfl, ← HSS.out] at hcs5; have hfz5 := (HR.out.bel hbw5).fz k; have hpl5 := (HR.out.bel hbw5).lt)
          all_goals
            have HR2 := Lib.hid (((HR.out.bel hbw5).put f6 S').congr (f' := fun j => if j = k then scTo G cols (q + 1) else 0) (fun j _ => by
              by_cases e : j = k
              · rw [if_pos e, if_pos e, HS'.out]
              · rw [if_neg e, if_neg e, if_neg e]))
            have HM2 := Lib.hid ((HMq.out.bel hbw5).far (p := ⟨p, k, none⟩) (by show g ≠ p; omega) (.int .i64 S'))
            have HZ2 := Lib.hid ((HZq.out.bel hbw5).far (p := ⟨p, k, none⟩) (by show w.heap.size ≠ p; omega) (.int .i64 S'))
            have HB2 := Lib.hid (show Bel w (w5.setCell ⟨p, k, none⟩ (.int .i64 S')) from (hbq.trans hbw5).setCell (by show w.heap.size ≤ p; omega) _)
            have HI2 := Lib.hid (show Ints (w5.setCell ⟨p, k, none⟩ (.int .i64 S')) (some ⟨b3, o3, none⟩) cols from (HIq.out.bel hbw5).far (p := ⟨p, k, none⟩) (fun b o e => by injection e with e; injection e with e1 e2; subst e1; show b3 ≠ p; have := HPB.out; omega) _)
            clear hcs5 hfz5 hpl5 k1 k2
            go_wp2
            go_roundw
            case rel => exact ⟨q + 1, by omega, by go_num, HR2.out, HM2.out, HZ2.out, HI2.out, HB2.out⟩
            case measure => simp [intOf]; omega
        · obtain rfl : q = n1 := by omega
          have hS9 := HSC.out q (Nat.le_refl _)
          have HR2 := Lib.hid (hR.congr (f' := soTo G cols k 0) (fun j _ => by simp only [soTo]; rw [← HN.out]))
          clear hR
          go_wp2
          go_loopw [62] (fun i wr => ∃ t : Nat, t ≤ q ∧ i = .int .i64 t ∧ Row wr p 6 6 (soTo G cols k t) ∧ Mat wr g m G ∧ Row wr w.heap.size 6 6 (fun _ => 0) ∧ Ints wr A1 cols ∧ Bel w wr) (fun i _ => q - (intOf i).toNat)
          case atStart => exact ⟨0, Nat.zero_le _, rfl, HR2.out, hMq, hZq, hIq, hbq⟩
          case round =>
            clear HR2 hMq hZq hIq hbq
            obtain ⟨t, ht, rfl, hR, hMq, hZq, hIq, hbq⟩ := hrel
            have hSo := HSF.out t ht
            by_cases hlt : t < q
            · have hti : (t : Int) < (q : Int) := by omega
              obtain ⟨b3, o3, x, rfl, hbl1, hg3, _⟩ := hI1.at_ (k := t) (by rw [← HN.out]; exact hlt)
              have hc3 := hIq.cell_ hg3
              have HPB := Lib.hid (show b3 < p by have := hb3.size; have := HP.out; omega)
              obtain ⟨x0, x6⟩ := HCS.out x (List.mem_of_getElem? hg3)
              obtain ⟨c, hc⟩ : ∃ c : Nat, x = (c : Int) := ⟨x.toNat, by omega⟩
              subst hc
              have hc6 : c < 6 := by omega
              have hcol : colN cols t = c := by unfold colN; rw [getD_at hg3]; omega
              have how : ownI G cols t = G t c := by unfold ownI; rw [hcol]
              have hv0 := HOWN.out t hlt
              rw [how] at hv0
              have hvb := HFK.out t (by omega) c hc6
              have hub := HFK.out t (by omega) k f6
              have hcv := hMq.cells t c (by omega) hc6
              have hcu := hMq.cells t k (by omega) f6
              have hcs := hR.cells k f6
              rw [hSo] at hcs
              obtain ⟨vv, hvv⟩ := hR.all c hc6
              have hfz := hR.fz c
              obtain ⟨v, hv⟩ : ∃ v, v = G t c := ⟨_, rfl⟩
              obtain ⟨u, hu⟩ : ∃ u, u = G t k := ⟨_, rfl⟩
              obtain ⟨S, hS⟩ : ∃ S, S = scTo G cols q := ⟨_, rfl⟩
              have hS9' := hS9
              rw [← hS] at hS9'
              have hnx : soTo G cols k (t + 1) = fun j => if j = c then -u * S.tdiv v else soTo G cols k t j := by
                funext j
                simp only [soTo]
                rw [hcol, how, ← hv, ← hu, ← HN.out, ← hS]
              rw [← hv] at hv0 hvb hcv
              rw [← hu] at hub hcu
              rw [← hS] at hcs
              obtain ⟨v1, v9⟩ := hvb
              obtain ⟨u1, u9⟩ := hub
              obtain ⟨s1, s9⟩ := hS9'
              obtain ⟨d1, d9⟩ := tdiv_bd (b := v) ⟨s1, s9⟩
              have hvz : (v == 0) = false := by simpa using hv0
              obtain ⟨p1, p9⟩ := mulB (x := -u) (y := S.tdiv v) (by omega) (by omega) d1 d9
              have hqm : (t : Int) < (m : Int) := by omega
              have hci6 : (c : Int) < 6 := by omega
              have hmi : (m : Int) ≤ 20 := by omega
              have hpl := hR.lt
              have HN2 := Lib.hid hnx
              have HR2 := Lib.hid (fun nq => ((hR.drewN nq).put hc6 (-u * S.tdiv v)).congr (f' := soTo G cols k (t + 1)) (fun j _ => by rw [HN2.out]))
              have HM2 := Lib.hid (fun nq => (hMq.bel ((Bel.refl wr).drewN nq)).far (p := ⟨p, c, none⟩) (by show g ≠ p; omega) (.int .i64 (-u * S.tdiv v)))
              have HZ2 := Lib.hid (fun nq => (hZq.drewN nq).far (p := ⟨p, c, none⟩) (by show w.heap.size ≠ p; omega) (.int .i64 (-u * S.tdiv v)))
              have HI2 := Lib.hid (fun nq => (hIq.bel ((Bel.refl wr).drewN nq)).far (p := ⟨p, c, none⟩) (fun b o e => by injection e with e; injection e with e1 e2; subst e1; show b3 ≠ p; have := HPB.out; omega) (.int .i64 (-u * S.tdiv v)))
              have HB2 := Lib.hid (fun nq => show Bel w ((wr.drewN nq).setCell ⟨p, c, none⟩ (.int .i64 (-u * S.tdiv v))) from (hbq.drewN nq).setCell (by show w.heap.size ≤ p; omega) _)
              clear hg3 hcol how hv hu hS hnx hR hMq hZq hIq hSo
              go_wp2
              go_quiet (fail)
              have hcs2 := hcs
              go_wp2
              go_roundw
              case rel => exact ⟨t + 1, by omega, by go_num, HR2.out _, HM2.out _, HZ2.out _, HI2.out _, HB2.out _⟩
              case measure => simp [intOf]; omega
            · obtain rfl : t = q := by omega
              obtain ⟨c0', c1', c2', c3', c4', c5'⟩ := hR.six
              have HSB := Lib.hid (show ∀ i, i < 6 → -4000000000000000000 ≤ soTo G cols k t i ∧ soTo G cols k t i ≤ 4000000000000000000 from fun i _ => soTo_bd f6 (fun j hj => HFK.out j (by rw [← HN.out] at hj; omega)) (by rw [← HN.out]; exact hS9) t (by rw [← HN.out]; exact Nat.le_refl _) i)
              obtain ⟨OF, hOF⟩ : ∃ OF, OF = soTo G cols k t := ⟨_, rfl⟩
              rw [← hOF] at HSB c0' c1' c2' c3' c4' c5'
              have HOF := Lib.hid hOF
              have HZ := Lib.hid hZq
              clear hOF hR hMq hIq hSo hZq
              go_wp2_with fail
              refine (lowest_any OF _ HSB.out).mono ?_
              rintro e w5 ⟨rfl, hb5⟩
              have h3 := HZ.out.bel hb5
              obtain ⟨d0, d1, d2, d3, d4, d5⟩ := h3.six
              have hz0 := h3.fz 0; have hz1 := h3.fz 1; have hz2 := h3.fz 2; have hz3 := h3.fz 3; have hz4 := h3.fz 4; have hz5 := h3.fz 5
              have hl2 := h3.lt
              have HQ := Lib.hid (fill6 (loF OF) h3)
              have HB := Lib.hid (bel6 (loF OF) (hbq.trans hb5) (g := w.heap.size) (by omega))
              obtain ⟨LF, hLF⟩ : ∃ LF, LF = loF OF := ⟨_, rfl⟩
              rw [← hLF] at HQ HB ⊢
              have HLF := Lib.hid hLF
              clear h3 c0' c1' c2' c3' c4' c5' hLF
              go_wp2
              obtain ⟨e0, e1, e2, e3, e4, e5⟩ := HQ.out.six
              exact bodyPost_ret (v := .tuple #[V6 LF, .bool true]) (by simp [results, Try.results118, go_sem, e0, e1, e2, e3, e4, e5]) rfl ⟨by rw [HLF.out, HOF.out], HB.out⟩
end Go.Proofs.Ytfjegdejfccgaaa
