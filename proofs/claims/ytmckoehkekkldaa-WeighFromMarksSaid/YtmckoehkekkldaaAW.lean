/- The document's FromMarks. -/
import Derived.Test.YtmckoehkekkldaaAS
namespace Go.Proofs.Ytmckoehkekkldaa
open Go.RowKit

theorem sides2_new (w : World) (t : TypeId) (S : Nat → List Int) (hS : ∀ i, S i = []) : Sides (w.heap.size + 1) (w.alloc (.cells #[.slice none 0 0, .slice none 0 0] t)) w.heap.size 2 S (fun _ => .slice none 0 0) := by
  refine ⟨by omega, fun i => by simp, fun i hi => ?_, fun i hi => by rw [hS]; exact Own1.nil _ _ _, fun i j b _ _ _ h => by cases h⟩
  rw [World.cell?_alloc_new]
  rcases (by omega : i = 0 ∨ i = 1) with rfl | rfl <;> simp
/-- What the document's FromMarks returns. -/
def FMV (w : World) (T : List (List Int)) (e : Ending) (w' : World) : Prop := ∃ A n c, e = .returned (.tuple #[.slice A n c, .int .i64 (errF T)]) ∧ n = (if errF T = 0 then planT T (wide T) else []).length ∧ Bel w w' ∧ Plan w.heap.size w' A (if errF T = 0 then planT T (wide T) else [])
theorem FMV.err {w w' : World} {T : List (List Int)} {x : Int} (h : errF T = x) (hx : x ≠ 0) (hb : Bel w w') : FMV w T (.returned (.tuple #[.slice none 0 0, .int .i64 x])) w' := by
  subst h
  exact ⟨none, 0, 0, rfl, by rw [if_neg hx]; rfl, hb, by rw [if_neg hx]; exact .inl rfl⟩
set_option maxRecDepth 100000 in
set_option maxHeartbeats 4000000 in
theorem rFromMarks_any (lo : Nat) (A : Option Addr) (n c : Nat) (T : List (List Int)) (w : World) (hT : Tab lo w A T) (hn : T.length = n) (hmax : n ≤ maxLen) :
    Calls Try.prog 55 #[.slice A n c] w (FMV w T) := by
  have Hn := Lib.hid hn
  have hni : (n : Int) ≤ 9223372036854775807 := by unfold maxLen at hmax; omega
  by_cases h1 : 1 ≤ (n : Int) ∧ (n : Int) ≤ 13
  case neg =>
    have HE := Lib.hid (errF_few (T := T) (by rw [hn]; exact h1))
    have hd := decide_eq_false h1
    clear hn h1
    go_enter Try.func55, Try.ntmps55
    go_wp2_with fail
    refine (within_any _ _ _ _).mono ?_
    rintro e w1 ⟨rfl, rfl⟩
    rw [hd]
    go_wp2
    exact bodyPost_ret (v := .tuple #[.slice none 0 0, .int .i64 3]) (by simp [results, Try.results55, go_sem]) rfl (FMV.err HE.out (by decide) (Bel.refl _))
  have hd := decide_eq_true h1
  have h1' : 1 ≤ (T.length : Int) ∧ (T.length : Int) ≤ 13 := by rw [hn]; exact h1
  have H1 := Lib.hid h1'
  obtain ⟨b0, o0, ns0, A0, n0, c0, rfl, hbl0, hg0, q0, hI0, hl0, hx0⟩ := hT.at_ (k := 0) (by omega)
  rw [Nat.add_zero] at q0
  obtain ⟨iW, hiW, hzW0, hzW1, hzW2⟩ := info_parts info2W
  obtain ⟨i0, hi, hz0, hz1, hz2⟩ := info_parts info1I
  have HW0 := Lib.hid (show wide T = n0 by rw [wide_at hg0]; exact hl0)
  have hn13 : n ≤ 13 := by omega
  have hni0 : (0 : Int) < (n : Int) := by omega
  clear hn h1 h1' hg0 hl0 hI0
  go_enter Try.func55, Try.ntmps55
  go_wp2_with fail
  refine (within_any _ _ _ _).mono ?_
  rintro e w1 ⟨rfl, rfl⟩
  rw [hd]
  go_wp2
  go_loop [4] (fun i => ∃ k : Nat, k ≤ n ∧ i = .int .i64 k ∧ (T.take k).any longB = false) (fun i => n - (intOf i).toNat)
  case atStart => exact ⟨0, Nat.zero_le _, rfl, rfl⟩
  case round =>
    obtain ⟨k, hk, rfl, hz⟩ := hrel
    have HZ := Lib.hid hz
    clear hz
    by_cases hlt : k < n
    · obtain ⟨b', o', ns, A1, n1, c1, hA, hbl, hg, q1, hI, hl1, hx1⟩ := hT.at_ (k := k) (by rw [Hn.out]; exact hlt)
      obtain ⟨rfl, rfl⟩ : b0 = b' ∧ o0 = o' := by simpa using hA
      have hki : (k : Int) < (n : Int) := by omega
      have hk0 : (0 : Int) ≤ (k : Int) := by omega
      by_cases hL : 3 < n1
      · have HE := Lib.hid (errF_long (any_hit (f := longB) hg (by unfold longB; rw [hl1]; exact decide_eq_true hL)))
        have hLi : (n1 : Int) > 3 := by omega
        clear hg hl1 hA hI
        go_wp2
        exact bodyPost_ret (v := .tuple #[.slice none 0 0, .int .i64 3]) (by simp [results, Try.results55, go_sem]) rfl (FMV.err HE.out (by decide) (Bel.refl _))
      · have HZ' := Lib.hid (any_take HZ.out hg (by unfold longB; rw [hl1]; exact decide_eq_false hL))
        have hLi : ¬ (n1 : Int) > 3 := by omega
        clear hg hl1 hA hI
        go_wp2
        go_round
        case rel => exact ⟨k + 1, by omega, by go_num, HZ'.out⟩
        case measure => simp [intOf]; omega
    · obtain rfl : n = k := by omega
      have HL := Lib.hid (any_all Hn.out HZ.out)
      have h03 : n0 ≤ 3 := by
        have e0 : T[0]? = some (T[0]'(by have := Hn.out; omega)) := List.getElem?_eq_getElem (by have := Hn.out; omega)
        have h2 := List.any_eq_false.1 HL.out _ (List.mem_of_getElem? e0)
        have h3 := HW0.out
        rw [wide_at e0] at h3
        unfold longB at h2
        simp at h2
        omega
      clear HZ
      go_wp2
      go_loopw [5, 6] (fun i _ wr => ∃ k : Nat, k ≤ n ∧ i = .int .i64 k ∧ Bel w wr ∧ (T.take k).any (noneB (wide T)) = false) (fun i _ _ => n - (intOf i).toNat)
      case atStart => exact ⟨0, Nat.zero_le _, rfl, Bel.refl _, rfl⟩
      case round =>
        obtain ⟨k, hk, rfl, hb, hz⟩ := hrel
        have HZ := Lib.hid hz
        clear hz
        have q0w : wr.cell? ⟨b0, o0, none⟩ = some (.slice A0 n0 c0) := by rw [hb.use.1 _ _ hbl0]; exact q0
        by_cases hlt : k < n
        · obtain ⟨b', o', ns, A1, n1, c1, hA, hbl, hg, q1', hI', hl1, hx1⟩ := hT.at_ (k := k) (by rw [Hn.out]; exact hlt)
          obtain ⟨rfl, rfl⟩ : b0 = b' ∧ o0 = o' := by simpa using hA
          have hki : (k : Int) < (n : Int) := by omega
          have hk0 : (0 : Int) ≤ (k : Int) := by omega
          have q1 : wr.cell? ⟨b0, o0 + k, none⟩ = some (.slice A1 n1 c1) := by rw [hb.use.1 _ _ hbl0]; exact q1'
          have hI := hI'.bel hb
          have HG := Lib.hid hg; have HLN := Lib.hid hl1
          clear hg hl1 hA q1' hI'
          by_cases hne : n1 = n0
          · obtain rfl := hne
            have hne1 : ((n1 : Int) != (n1 : Int)) = false := by simp
            go_wp2
            go_region
            go_wp2
            go_loop [6] (fun j => ∃ y : Nat, y ≤ n1 ∧ j = .int .i64 y ∧ ∀ (j : Nat) (u : Int), j < y → ns[j]? = some u → sideOk u = true) (fun j => n1 - (intOf j).toNat)
            case atStart => exact ⟨0, Nat.zero_le _, rfl, fun j u hj => by omega⟩
            case round =>
              obtain ⟨y, hy, rfl, hz⟩ := hrel
              have HY := Lib.hid hz
              clear hz
              by_cases hyl : y < n1
              · obtain ⟨bx, ox, x, rfl, hbx, hgx, hcx⟩ := hI.at_ (k := y) (by rw [HLN.out]; exact hyl)
                have hyi : (y : Int) < (n1 : Int) := by omega
                have hy0 : (0 : Int) ≤ (y : Int) := by omega
                have HGX := Lib.hid hgx
                have HX := Lib.hid (show decide (-1 ≤ x ∧ x ≤ 1) = sideOk x from rfl)
                clear hgx
                go_wp2_with fail
                refine (within_any _ _ _ _).mono ?_
                rintro e w1 ⟨rfl, rfl⟩
                rw [HX.out]
                cases hx : sideOk x
                · have HE := Lib.hid (errF_none H1.out HL.out (any_hit (f := noneB (wide T)) HG.out (by unfold noneB; rw [sides_no HGX.out hx]; simp)))
                  clear hx
                  go_wp2
                  exact bodyPost_ret (v := .tuple #[.slice none 0 0, .int .i64 1]) (by simp [results, Try.results55, go_sem]) rfl (FMV.err HE.out (by decide) (by (repeat (first | exact Bel.refl _ | assumption | refine Bel.drew ?_ | refine Bel.drewN ?_ _ | refine Bel.alloc ?_ _ | refine Bel.setCell ?_ (by first | omega | (simp; done) | (simp; omega) | (simp at *; omega)) _ | refine Bel.trans ?_ (by assumption)))))
                · have HY' := Lib.hid (sides_next HY.out HGX.out hx)
                  clear hx
                  go_wp2
                  go_round
                  case rel => exact ⟨y + 1, by omega, by go_num, HY'.out⟩
                  case measure => simp [intOf]; omega
              · obtain rfl : n1 = y := by omega
                have HZ' := Lib.hid (any_take HZ.out HG.out (by unfold noneB; rw [HW0.out, HLN.out, sides_all HY.out HLN.out]; simp))
                go_wp2
                go_roundw
                case rel => exact ⟨k + 1, by omega, by go_num, by (repeat (first | exact Bel.refl _ | assumption | refine Bel.drew ?_ | refine Bel.drewN ?_ _ | refine Bel.alloc ?_ _ | refine Bel.setCell ?_ (by first | omega | (simp; done) | (simp; omega) | (simp at *; omega)) _ | refine Bel.trans ?_ (by assumption))), HZ'.out⟩
                case measure => simp [intOf]; omega
          · have hne1 : ((n1 : Int) != (n0 : Int)) = true := by simp; omega
            have HE := Lib.hid (errF_none H1.out HL.out (any_hit (f := noneB (wide T)) HG.out (by unfold noneB; rw [HW0.out, HLN.out]; simp [hne])))
            go_wp2
            go_region
            go_wp2
            exact bodyPost_ret (v := .tuple #[.slice none 0 0, .int .i64 1]) (by simp [results, Try.results55, go_sem]) rfl (FMV.err HE.out (by decide) (by (repeat (first | exact Bel.refl _ | assumption | refine Bel.drew ?_ | refine Bel.drewN ?_ _ | refine Bel.alloc ?_ _ | refine Bel.setCell ?_ (by first | omega | (simp; done) | (simp; omega) | (simp at *; omega)) _ | refine Bel.trans ?_ (by assumption)))))
        · obtain rfl : n = k := by omega
          have hN := any_all Hn.out HZ.out
          have HN := Lib.hid hN
          have hrows : ∀ l ∈ T, l.length = n0 ∧ sidesB l = true := fun l hl => by
            have := List.any_eq_false.1 hN l hl
            unfold noneB at this
            rw [HW0.out] at this
            simpa using this
          have HR := Lib.hid hrows
          clear HZ hN hrows
          go_wp2
          go_loopw [7, 8, 9, 10, 11] (fun v i _ _ _ wr => ∃ j : Nat, j ≤ n0 ∧ i = .int .i64 j ∧ Bel w wr ∧ OwnP w.heap.size wr v ((planT T n0).take j) ∧ ∀ j', j' < j → colS T j' T.length = 0) (fun _ i _ _ _ _ => n0 - (intOf i).toNat)
          case atStart => exact ⟨0, Nat.zero_le _, rfl, hb, OwnP.nil _ _, fun j' h => by omega⟩
          case round =>
            clear hb q0w
            obtain ⟨j, hj, rfl, hb, hOP, hz⟩ := hrel
            have HZ := Lib.hid hz; have HOP := Lib.hid hOP
            clear hz hOP
            have q0w : wr.cell? ⟨b0, o0, none⟩ = some (.slice A0 n0 c0) := by rw [hb.use.1 _ _ hbl0]; exact q0
            have hbs := hb.size
            by_cases hlt : j < n0
            · obtain ⟨wo, hwo⟩ : ∃ wo : World, wo = wr := ⟨_, rfl⟩
              subst hwo
              have hji : (j : Int) < (n0 : Int) := by omega
              have hj0 : (0 : Int) ≤ (j : Int) := by omega
              have hs0 := sides2_new wo 50 (sidT T j 0) (sidT_zero T j)
              have HS0 := Lib.hid hs0
              clear hs0
              go_wp2
              go_loopw [10, 11] (fun s i wr => ∃ x : Nat, x ≤ n ∧ i = .int .i64 x ∧ s = .int .i64 (colS T j x) ∧ Bel wo wr ∧ wo.heap.size + 1 ≤ wr.heap.size ∧ ∃ vs, Sides (wo.heap.size + 1) wr wo.heap.size 2 (sidT T j x) vs) (fun _ i _ => n - (intOf i).toNat)
              case atStart => exact ⟨0, Nat.zero_le _, rfl, rfl, by (repeat (first | exact Bel.refl _ | assumption | refine Bel.drew ?_ | refine Bel.drewN ?_ _ | refine Bel.alloc ?_ _ | refine Bel.setCell ?_ (by first | omega | (simp; done) | (simp; omega) | (simp at *; omega)) _ | refine Bel.trans ?_ (by assumption))), by simp, _, HS0.out⟩
              case round =>
                obtain ⟨x, hx, rfl, rfl, hbj, hsj, vs, hs⟩ := hrel
                by_cases hxl : x < n
                · obtain ⟨b', o', ns, A1, n1, cx, hA, hbl, hg, q1', hI', hl1, hx1⟩ := hT.at_ (k := x) (by rw [Hn.out]; exact hxl)
                  obtain ⟨rfl, rfl⟩ : b0 = b' ∧ o0 = o' := by simpa using hA
                  obtain rfl : n0 = n1 := by rw [← hl1]; exact (HR.out _ (List.mem_of_getElem? hg)).1.symm
                  obtain ⟨bx, ox, z, rfl, hbx', hgz, hcz'⟩ := hI'.at_ (k := j) (by rw [hl1]; exact hlt)
                  have hze : entT T j x = z := by rw [entT_at hg, getD_of hgz]
                  have hxi : (x : Int) < (n : Int) := by omega
                  have hx0 : (0 : Int) ≤ (x : Int) := by omega
                  have hbwj := hb.trans hbj
                  have q1 : wr.cell? ⟨b0, o0 + x, none⟩ = some (.slice (some ⟨bx, ox, none⟩) n0 cx) := by rw [hbwj.use.1 _ _ hbl0]; exact q1'
                  have q2 : wr.cell? ⟨bx, ox + j, none⟩ = some (.int .i64 z) := by rw [hbwj.use.1 _ _ hbx']; exact hcz'
                  have Q1 := Lib.hid (show wo.cell? ⟨b0, o0 + x, none⟩ = some (.slice (some ⟨bx, ox, none⟩) n0 cx) by rw [hb.use.1 _ _ hbl0]; exact q1')
                  have Q2 := Lib.hid (show wo.cell? ⟨bx, ox + j, none⟩ = some (.int .i64 z) by rw [hb.use.1 _ _ hbx']; exact hcz')
                  have hbx : bx < wo.heap.size := by omega
                  have hcb := colS_bd (fun l hl => (HR.out l hl).2) j x
                  have hzb := ent_bd (fun l hl => (HR.out l hl).2) j x
                  have HCS := Lib.hid (show colS T j (x + 1) = colS T j x + entT T j x from rfl)
                  obtain ⟨s, hse⟩ : ∃ s, s = colS T j x := ⟨_, rfl⟩
                  rw [← hse] at hcb HCS
                  rw [← hse]
                  rw [hze] at hzb HCS
                  have HSE := Lib.hid hse
                  clear hse hg q1' hA hgz hcz' hl1 hI' hx1
                  rcases (by omega : z = 1 ∨ z = -1 ∨ z = 0) with rfl | rfl | rfl
                  · have hzv := hze
                    have hsd := sidT_left (T := T) (j := j) (x := x) hzv
                    have hown1 := hs.own 0 (by omega)
                    have hlen := sidT_len T j x 0
                    obtain ⟨ll, hll⟩ : ∃ ll, ll = sidT T j x 0 := ⟨_, rfl⟩
                    rw [← hll] at hown1 hlen
                    have hc1 := hs.cells 0 (by omega)
                    obtain ⟨v, hv⟩ : ∃ v, v = vs 0 := ⟨_, rfl⟩
                    rw [← hv] at hown1 hc1
                    have hX1 := Lib.hid (show ll.length + 1 ≤ maxLen by unfold maxLen; omega)
                    have hX2 := Lib.hid (show (ll.length + 1) * 8 ≤ 140737488355328 by omega)
                    have HLL := Lib.hid hll; have HV := Lib.hid hv; have HSD := Lib.hid hsd; have HSS := Lib.hid hs
                    clear hll hv hsd hs
                    go_wp2_with (at_builtin; go_loud (refine wpList_append_lies _ rfl (.tmp 95) (.tmp 97) 28 rfl (wo.heap.size + 1) 3 i0 _ 1 8 Try.underlying28 hi hz0 hz1 hz2 rfl (by decide) v ll.length (ll.map fun x => .int .i64 x) (by rfl) (World.ownsRow.alloc hown1 _) ⟨wr.heap.size, 0, none⟩ 1 1 [.int .i64 (x : Int)] (by rfl) rfl (new1 wr _ _ _ rfl) (one1 _) (by omega) hX1.out hX2.out (by simp <;> omega) _ rfl ?_); intro g3 cap3 w3 hown3 hgr3 hat3 hlt3; have hblk : w3.heap[wo.heap.size]? = wr.heap[wo.heap.size]? := (hgr3.block wo.heap.size (by simp; omega) (fun e => by have h5 := (World.ownsRow.lt hown1 wo.heap.size e.symm).1; omega)).trans (Below.heap_alloc _ _ _ (by omega)); have hcell3 : w3.cell? ⟨wo.heap.size, 0, none⟩ = some v := (by rw [World.cell?_of_block (w := wr) hblk]; exact hc1); have hfz3 : w3.frozen? ⟨wo.heap.size, 0, none⟩ = false := (by rw [World.frozen?_of_block (w := wr) hblk]; exact HSS.out.fz _); have hlt9 : wo.heap.size < w3.heap.size := (by have h7 := hgr3.size; simp at h7; omega); have hbW3 : Bel wo w3 := grown_own (w := wo) (hbj.alloc _) hown1 (by omega) hgr3; have hq3 : w3.cell? ⟨b0, o0 + x, none⟩ = some (.slice (some ⟨bx, ox, none⟩) n0 cx) := (by rw [hbW3.use.1 _ _ (by omega)]; exact Q1.out); have hv3 : w3.cell? ⟨bx, ox + j, none⟩ = some (.int .i64 (1)) := (by rw [hbW3.use.1 _ _ hbx]; exact Q2.out); have hne0 : ¬ b0 = wo.heap.size := (by omega); have hnex : ¬ bx = wo.heap.size := (by omega))
                    have hO3 := Own1.snoc hown3
                    obtain ⟨vs', hs', hvs'⟩ := (HSS.out.gt (W := wr.alloc (.cells #[.int .i64 (x : Int)] 3)) ((Bel.refl wr).alloc _) (by omega)).step (S' := sidT T j (x + 1)) (i := 0) (by omega) (x := (x : Int)) (v' := .slice (some ⟨g3, 0, none⟩) (ll.length + 1) cap3) (w3 := w3) (by simp; omega) HSD.out.1
                      (fun k hk => by
                        by_cases e : k = 1
                        · rw [e]; exact HSD.out.2
                        · rw [sidT_far (by omega) (by omega), sidT_far (by omega) (by omega)]) (by rw [← HLL.out]; exact hO3) (by rw [← HV.out]; exact hgr3) (by rw [← HV.out]; rcases hat3 with e | e; exact .inl (by rw [e]; rfl); exact .inr (fun b hb' => by have e3 : some g3 = some b := hb'; injection e3 with e3; omega))
                    have HS' := Lib.hid hs'
                    have HB3 := Lib.hid (show Bel wo (w3.setCell ⟨wo.heap.size, 0, none⟩ (.slice (some ⟨g3, 0, none⟩) (ll.length + 1) cap3)) from hbW3.setCell (p := ⟨wo.heap.size, 0, none⟩) (Nat.le_refl _) _)
                    have hs3 := Nat.le_trans (show wr.heap.size ≤ (wr.alloc (.cells #[.int .i64 (x : Int)] 3)).heap.size by simp) hgr3.size
                    clear hown3 hgr3 hat3 hO3 hown1 hc1 hs' hvs'
                    go_roundw
                    case rel => exact ⟨x + 1, by omega, by go_num, by rw [HCS.out]; try go_num, HB3.out, by simp [World.setCell]; omega, vs', HS'.out⟩
                    case measure => simp [intOf]; omega
                  · have hzv := hze
                    have hsd := sidT_right (T := T) (j := j) (x := x) hzv
                    have hown1 := hs.own 1 (by omega)
                    have hlen := sidT_len T j x 1
                    obtain ⟨ll, hll⟩ : ∃ ll, ll = sidT T j x 1 := ⟨_, rfl⟩
                    rw [← hll] at hown1 hlen
                    have hc1 := hs.cells 1 (by omega)
                    obtain ⟨v, hv⟩ : ∃ v, v = vs 1 := ⟨_, rfl⟩
                    rw [← hv] at hown1 hc1
                    have hX1 := Lib.hid (show ll.length + 1 ≤ maxLen by unfold maxLen; omega)
                    have hX2 := Lib.hid (show (ll.length + 1) * 8 ≤ 140737488355328 by omega)
                    have HLL := Lib.hid hll; have HV := Lib.hid hv; have HSD := Lib.hid hsd; have HSS := Lib.hid hs
                    clear hll hv hsd hs
                    go_wp2_with (at_builtin; go_loud (refine wpList_append_lies _ rfl (.tmp 109) (.tmp 111) 28 rfl (wo.heap.size + 1) 3 i0 _ 1 8 Try.underlying28 hi hz0 hz1 hz2 rfl (by decide) v ll.length (ll.map fun x => .int .i64 x) (by rfl) (World.ownsRow.alloc hown1 _) ⟨wr.heap.size, 0, none⟩ 1 1 [.int .i64 (x : Int)] (by rfl) rfl (new1 wr _ _ _ rfl) (one1 _) (by omega) hX1.out hX2.out (by simp <;> omega) _ rfl ?_); intro g3 cap3 w3 hown3 hgr3 hat3 hlt3; have hblk : w3.heap[wo.heap.size]? = wr.heap[wo.heap.size]? := (hgr3.block wo.heap.size (by simp; omega) (fun e => by have h5 := (World.ownsRow.lt hown1 wo.heap.size e.symm).1; omega)).trans (Below.heap_alloc _ _ _ (by omega)); have hcell3 : w3.cell? ⟨wo.heap.size, 1, none⟩ = some v := (by rw [World.cell?_of_block (w := wr) hblk]; exact hc1); have hfz3 : w3.frozen? ⟨wo.heap.size, 1, none⟩ = false := (by rw [World.frozen?_of_block (w := wr) hblk]; exact HSS.out.fz _); have hlt9 : wo.heap.size < w3.heap.size := (by have h7 := hgr3.size; simp at h7; omega); have hbW3 : Bel wo w3 := grown_own (w := wo) (hbj.alloc _) hown1 (by omega) hgr3; have hq3 : w3.cell? ⟨b0, o0 + x, none⟩ = some (.slice (some ⟨bx, ox, none⟩) n0 cx) := (by rw [hbW3.use.1 _ _ (by omega)]; exact Q1.out); have hv3 : w3.cell? ⟨bx, ox + j, none⟩ = some (.int .i64 (-1)) := (by rw [hbW3.use.1 _ _ hbx]; exact Q2.out); have hne0 : ¬ b0 = wo.heap.size := (by omega); have hnex : ¬ bx = wo.heap.size := (by omega))
                    have hO3 := Own1.snoc hown3
                    obtain ⟨vs', hs', hvs'⟩ := (HSS.out.gt (W := wr.alloc (.cells #[.int .i64 (x : Int)] 3)) ((Bel.refl wr).alloc _) (by omega)).step (S' := sidT T j (x + 1)) (i := 1) (by omega) (x := (x : Int)) (v' := .slice (some ⟨g3, 0, none⟩) (ll.length + 1) cap3) (w3 := w3) (by simp; omega) HSD.out.1
                      (fun k hk => by
                        by_cases e : k = 0
                        · rw [e]; exact HSD.out.2
                        · rw [sidT_far (by omega) (by omega), sidT_far (by omega) (by omega)]) (by rw [← HLL.out]; exact hO3) (by rw [← HV.out]; exact hgr3) (by rw [← HV.out]; rcases hat3 with e | e; exact .inl (by rw [e]; rfl); exact .inr (fun b hb' => by have e3 : some g3 = some b := hb'; injection e3 with e3; omega))
                    have HS' := Lib.hid hs'
                    have HB3 := Lib.hid (show Bel wo (w3.setCell ⟨wo.heap.size, 1, none⟩ (.slice (some ⟨g3, 0, none⟩) (ll.length + 1) cap3)) from hbW3.setCell (p := ⟨wo.heap.size, 1, none⟩) (Nat.le_refl _) _)
                    have hs3 := Nat.le_trans (show wr.heap.size ≤ (wr.alloc (.cells #[.int .i64 (x : Int)] 3)).heap.size by simp) hgr3.size
                    clear hown3 hgr3 hat3 hO3 hown1 hc1 hs' hvs'
                    go_roundw
                    case rel => exact ⟨x + 1, by omega, by go_num, by rw [HCS.out]; try go_num, HB3.out, by simp [World.setCell]; omega, vs', HS'.out⟩
                    case measure => simp [intOf]; omega
                  · have HS' : Hid (Sides (wo.heap.size + 1) wr wo.heap.size 2 (sidT T j (x + 1)) vs) := by
                      show Sides _ _ _ _ _ _
                      rw [sidT_none (by rw [hze]; decide) (by rw [hze]; decide)]
                      exact hs
                    clear hs
                    go_wp2
                    go_roundw
                    case rel => exact ⟨x + 1, by omega, by go_num, by rw [HCS.out]; try go_num, hbj, hsj, vs, HS'.out⟩
                    case measure => simp [intOf]; omega
                · obtain rfl : n = x := by omega
                  have hbwj := hb.trans hbj
                  by_cases hc0 : colS T j n = 0
                  · rw [hc0]
                    have e1 := hs.own 0 (by omega)
                    have e2 := hs.own 1 (by omega)
                    have k1 := hs.cells 0 (by omega)
                    have k2 := hs.cells 1 (by omega)
                    have t1 := fun b hb' => World.ownsRow.lt e1 b hb'
                    have t2 := fun b hb' => World.ownsRow.lt e2 b hb'
                    obtain ⟨A1, n1, c1, f1, hn1, hI1⟩ := e1.form
                    obtain ⟨A2, n2, c2, f2, hn2, hI2⟩ := e2.form
                    rw [f1] at k1 t1
                    rw [f2] at k2 t2
                    have l1 := sidT_len T j n 0
                    have l2 := sidT_len T j n 1
                    have HN1 := Lib.hid hn1; have HN2 := Lib.hid hn2
                    have hpo := HOP.out
                    obtain ⟨ps, hps⟩ := hpo
                    have hpb := hps.bel hbj
                    have hlen : ((planT T n0).take j).length = j := by rw [List.length_take, planT_length]; omega
                    have HLE := Lib.hid hlen
                    have hO1 := hpb.own
                    rw [hlen] at hO1
                    have hown0 := hps.own
                    have HP := Lib.hid (fun b (hb' : u7.ownBlock = some b) => (World.ownsRow.lt hown0 b hb').2)
                    have HPB := Lib.hid hpb
                    have hX1 := Lib.hid (show j + 1 ≤ maxLen by unfold maxLen; omega)
                    have hX2 := Lib.hid (show (j + 1) * 48 ≤ 140737488355328 by omega)
                    have HT1 := Lib.hid t1; have HT2 := Lib.hid t2
                    have HS := Lib.hid (planT_next (T := T) (q := n0) hlt)
                    rw [Hn.out] at HS
                    have HZ' : Hid (∀ j', j' < j + 1 → colS T j' T.length = 0) := fun j' h' => by
                      rcases (by omega : j' < j ∨ j' = j) with h | rfl
                      · exact HZ.out j' h
                      · rw [Hn.out]; exact hc0
                    clear hn1 hn2 hps hpb hlen hown0 t1 t2 hs hc0 e1 e2 f1 f2
                    go_wp2_with (at_builtin; go_loud (refine wpList_append_lies _ rfl (.tmp 116) (.tmp 118) 22 rfl w.heap.size 50 iW _ 2 48 Try.underlying22 hiW hzW0 hzW1 hzW2 rfl (by decide) u7 j ps (by rfl) (hO1.alloc _) ⟨wr.heap.size, 0, none⟩ 1 1 [.slice A1 n1 c1, .slice A2 n2 c2] (by rfl) rfl (new2 _ _ _ _ _ rfl) (one2 _ _ _ _ _ _) (by omega) hX1.out hX2.out (by simp <;> omega) _ rfl ?_); intro g3 cap3 w3 hown3 hgr3 hat3 hlt3)
                    have hO3 := OwnPV.snoc (g := g3) (HPB.out.bel ((Bel.refl wr).alloc _)) (hI1.bel ((Bel.refl wr).alloc _)) HN1.out.symm (by have := HN1.out; unfold maxLen; omega)
                      (fun b o hA => ⟨by have := (HT1.out b (by rw [hA]; rfl)).2; simp <;> omega, fun e => by have h1 := HP.out b e; have h2 := (HT1.out b (by rw [hA]; rfl)).1; omega, by have h2 := (HT1.out b (by rw [hA]; rfl)).1; omega⟩)
                      (hI2.bel ((Bel.refl wr).alloc _)) HN2.out.symm (by have := HN2.out; unfold maxLen; omega)
                      (fun b o hA => ⟨by have := (HT2.out b (by rw [hA]; rfl)).2; simp <;> omega, fun e => by have h1 := HP.out b e; have h2 := (HT2.out b (by rw [hA]; rfl)).1; omega, by have h2 := (HT2.out b (by rw [hA]; rfl)).1; omega⟩) (by rw [HLE.out]; exact hown3) hgr3 (by simpa using hat3)
                    have hB3 := grown_own (w := w) (hbwj.alloc _) hO1 (Nat.le_refl _) hgr3
                    rw [HLE.out, ← HS.out] at hO3
                    have HO3 := Lib.hid hO3
                    clear hown3 hgr3 hat3 hlt3 hI1 hI2 hO1 hO3 k1 k2
                    go_wp2
                    go_roundw
                    case rel => exact ⟨j + 1, by omega, by go_num, hB3, HO3.out, HZ'.out⟩
                    case measure => simp [intOf]; omega
                  · have HE := Lib.hid (errF_sum H1.out HL.out HN.out (j := j) (by rw [HW0.out]; exact hlt) (by rw [Hn.out]; exact hc0))
                    have hcne : (colS T j n != 0) = true := by simpa using hc0
                    obtain ⟨s, hse⟩ : ∃ s, s = colS T j n := ⟨_, rfl⟩
                    rw [← hse] at hcne ⊢
                    clear hs hse hc0
                    go_wp2
                    exact bodyPost_ret (v := .tuple #[.slice none 0 0, .int .i64 5]) (by simp [results, Try.results55, go_sem]) rfl (FMV.err HE.out (by decide) hbwj)
            · obtain rfl : n0 = j := by omega
              have HE := Lib.hid (errF_ok H1.out HL.out HN.out (by rw [HW0.out]; exact HZ.out))
              have hOP := HOP.out
              rw [planT_all] at hOP
              obtain ⟨A', n', c', rfl, hn', hP⟩ := hOP.form
              have HN' := Lib.hid hn'; have HP := Lib.hid hP
              clear hOP HOP hn' hP
              go_wp2
              exact bodyPost_ret (v := .tuple #[.slice A' n' c', .int .i64 0]) (by simp [results, Try.results55, go_sem]) rfl ⟨A', n', c', by rw [HE.out], by rw [if_pos HE.out, HW0.out]; exact HN'.out, hb, by rw [if_pos HE.out, HW0.out]; exact HP.out⟩
end Go.Proofs.Ytmckoehkekkldaa
