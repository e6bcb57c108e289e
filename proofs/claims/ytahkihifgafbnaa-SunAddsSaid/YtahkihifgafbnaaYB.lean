/- Kings of the document; Kings of both, where the table is none; Has. -/
import Derived.Test.YtahkihifgafbnaaYA
import Derived.Test.YtahkihifgafbnaaXB
import Derived.BigQuiet
namespace Go.Proofs.Ytahkihifgafbnaa
open Go.RowKit

theorem ents_at {S : Nat → Prop} {w : World} {A : Option Addr} {T : List (List Int)} {n : Nat} (hT : TabN S w A T) (hs : Square T n) : ∃ g o, A = some ⟨g, o, none⟩ ∧ S g ∧ ∀ a b, a < n → b < n → ∃ b' o' c', S b' ∧ w.cell? ⟨g, o + a, none⟩ = some (.slice (some ⟨b', o', none⟩) n c') ∧ w.cell? ⟨b', o' + b, none⟩ = some (.int .i64 (ent T a b)) := by
  obtain ⟨g, o, rfl, hg, hc⟩ := hT
  refine ⟨g, o, rfl, hg, fun a b ha hb => ?_⟩
  obtain ⟨r, h1, h2, h3⟩ := hs.at_ ha hb
  obtain ⟨b', o', n', c', k1, k2, k4, k3⟩ := hc a r h1
  obtain rfl : n' = n := by omega
  exact ⟨b', o', c', k4, k1, k3 b _ h3⟩
set_option maxRecDepth 100000 in
set_option maxHeartbeats 4000000 in
theorem rkings_ok (lo : Nat) (A : Option Addr) (n c : Nat) (T : List (List Int)) (w : World) (hR : Tab lo w A T) (hn : T.length = n) (hE : errT T = 0) :
    Calls Try.prog 49 #[.slice A n c] w fun e w' => ∃ v base, e = .returned (.tuple #[v, .int .i64 0]) ∧ w.heap.size ≤ base ∧ Bel w w' ∧ Own1 3 base w' v (kingsTo T n n) := by
  obtain ⟨⟨h1, h7⟩, hrw, -⟩ := errT_zero hE
  rw [hn] at h1 h7 hrw
  have hsq := rowsB_square hn hrw
  have hB := beats_of hn hE
  obtain ⟨g, o, rfl, hgl, hents⟩ := ents_at (hR.toN hsq h1) hsq
  obtain ⟨i0, hi, hz0, hz1, hz2⟩ := info_parts info1I
  have HE := Lib.hid hE; have Hn := Lib.hid hn; have HB := Lib.hid hB
  have Ents : Hid (∀ w', Bel w w' → ∀ a b, a < n → b < n → ∃ b' o' c', w'.cell? ⟨g, o + a, none⟩ = some (.slice (some ⟨b', o', none⟩) n c') ∧ w'.cell? ⟨b', o' + b, none⟩ = some (.int .i64 (ent T a b))) := fun w' hw a b ha hb => by
    obtain ⟨b', o', c', hb', k1, k2⟩ := hents a b ha hb
    exact ⟨b', o', c', by rw [hw.use.1 _ _ hgl]; exact k1, by rw [hw.use.1 _ _ hb']; exact k2⟩
  clear hE hn hrw hsq hents hB
  go_enter Try.func49, Try.ntmps49
  go_wp2_with fail
  refine (rvalidate_any lo (some ⟨g, o, none⟩) n c T _ hR Hn.out).mono ?_
  rintro e w1 ⟨rfl, hb1⟩
  rw [HE.out]
  have hws : w.heap.size ≤ w1.heap.size := hb1.size
  go_wp2
  go_loopw [5, 6, 7, 8, 9, 10] (fun v i _ _ _ _ wr => ∃ k : Nat, k ≤ n ∧ i = .int .i64 k ∧ Bel w1 wr ∧ Own1 3 w1.heap.size wr v (kingsTo T n k)) (fun _ i _ _ _ _ _ => n - (intOf i).toNat)
  case atStart => exact ⟨0, Nat.zero_le _, rfl, Bel.refl _, Own1.nil _ _ _⟩
  case round =>
    obtain ⟨k, hk, rfl, hb, hO⟩ := hrel
    by_cases hlt : k < n
    · have hkn : (k : Int) < (n : Int) := by omega
      have hk0 : (0 : Int) ≤ (k : Int) := by omega
      have hbw := hb1.trans hb
      have HO := Lib.hid hO
      obtain ⟨wo, hwo⟩ : ∃ wo : World, wo = wr := ⟨_, rfl⟩
      subst hwo
      clear hO
      go_wp2
      go_loopw [7, 8, 9, 10] (fun kg i _ _ wr => ∃ q : Nat, q ≤ n ∧ i = .int .i64 q ∧ kg = .bool (kingD T n k q) ∧ Bel wo wr) (fun _ i _ _ _ => n - (intOf i).toNat)
      case atStart => exact ⟨0, Nat.zero_le _, rfl, rfl, Bel.refl _⟩
      case round =>
        obtain ⟨q, hq, rfl, rfl, hbq⟩ := hrel
        by_cases hql : q < n
        · have hqn : (q : Int) < (n : Int) := by omega
          have hq0 : (0 : Int) ≤ (q : Int) := by omega
          obtain ⟨b2, o2, c2, e1, e2⟩ := Ents.out wr (hbw.trans hbq) k q hlt hql
          have HKN := Lib.hid (kingD_next T n k q)
          obtain ⟨kd, hkd⟩ : ∃ kd, kd = kingD T n k q := ⟨_, rfl⟩
          rw [← hkd] at HKN ⊢
          have HKD := Lib.hid hkd
          clear hkd
          have start : ∃ s0 : Bool, s0 = overD T k q 0 := ⟨_, rfl⟩
          obtain ⟨s0, hs0⟩ := start
          have HS0 : Hid (s0 = overD T k q 0) := hs0
          obtain ⟨wq, hwq⟩ : ∃ wq : World, wq = wr := ⟨_, rfl⟩
          subst hwq
          clear hs0
          by_cases hkq : k = q
          · subst hkq
            have hd : ((k : Int) == (k : Int)) = true := by simp
            have HT : Hid (overD T k k 0 = true) := by show _ = _; unfold overD; simp
            go_wp2
            go_loopw [9, 10] (fun ov i wr => ∃ m : Nat, m ≤ n ∧ i = .int .i64 m ∧ ov = .bool (overD T k k m) ∧ Bel wq wr) (fun _ i _ => n - (intOf i).toNat)
            case atStart => exact ⟨0, Nat.zero_le _, rfl, by rw [HT.out], Bel.refl _⟩
            case round =>
              clear e1 e2
              obtain ⟨m, hm, rfl, rfl, hbm⟩ := hrel
              have HN := Lib.hid (overD_next T k k m)
              obtain ⟨ov, hov⟩ : ∃ ov, ov = overD T k k m := ⟨_, rfl⟩
              rw [← hov] at HN ⊢
              have HOV := Lib.hid hov
              clear hov
              by_cases hml : m < n
              · have hmn : (m : Int) < (n : Int) := by omega
                have hm0 : (0 : Int) ≤ (m : Int) := by omega
                obtain ⟨b3, o3, c3, f1, f2⟩ := Ents.out wr ((hbw.trans hbq).trans hbm) k m hlt hml
                obtain ⟨b4, o4, c4, f3, f4⟩ := Ents.out wr ((hbw.trans hbq).trans hbm) m k hml hlt
                have hx := HB.out.one k m hlt hml
                have hy := HB.out.one m k hml hlt
                obtain ⟨x, hxe⟩ : ∃ x, x = ent T k m := ⟨_, rfl⟩
                obtain ⟨y, hye⟩ : ∃ y, y = ent T m k := ⟨_, rfl⟩
                rw [← hxe] at hx f2 HN
                rw [← hye] at hy f4 HN
                clear hxe hye
                cases ov
                · rcases hx with rfl | rfl <;> rcases hy with rfl | rfl <;>
                  · go_wp2
                    go_quiet (fail)
                    go_wp2
                    go_roundw
                    case rel => exact ⟨m + 1, by omega, by go_num, by rw [HN.out]; try rfl, by (repeat (first | exact Bel.refl _ | assumption | refine Bel.drew ?_ | refine Bel.drewN ?_ _ | refine Bel.alloc ?_ _ | refine Bel.setCell ?_ (by first | omega | (simp; done) | (simp; omega) | (simp at *; omega)) _ | refine Bel.trans ?_ (by assumption)))⟩
                    case measure => simp [intOf]; omega
                · go_wp2
                  go_quiet (fail)
                  go_wp2
                  go_roundw
                  case rel => exact ⟨m + 1, by omega, by go_num, by rw [HN.out]; try rfl, by (repeat (first | exact Bel.refl _ | assumption | refine Bel.drew ?_ | refine Bel.drewN ?_ _ | refine Bel.alloc ?_ _ | refine Bel.setCell ?_ (by first | omega | (simp; done) | (simp; omega) | (simp at *; omega)) _ | refine Bel.trans ?_ (by assumption)))⟩
                  case measure => simp [intOf]; omega
              · obtain rfl : n = m := by omega
                have HF := Lib.hid (show kingD T n k (k + 1) = (kd && ov) by rw [HKN.out, HOV.out])
                cases kd <;> cases ov <;>
                · go_wp2
                  go_roundw
                  case rel => exact ⟨k + 1, by omega, by go_num, by rw [HF.out]; try rfl, hbq.trans hbm⟩
                  case measure => simp [intOf]; omega
          · have hd : ((k : Int) == (q : Int)) = false := by simp; omega
            have hx0 := HB.out.one k q hlt hql
            obtain ⟨x0, hx0e⟩ : ∃ x, x = ent T k q := ⟨_, rfl⟩
            have HT : Hid (overD T k q 0 = decide (x0 = 1)) := by
              show _ = _
              unfold overD
              rw [decide_eq_false hkq, hx0e]
              simp
            rw [← hx0e] at hx0 e2
            clear hx0e
            rcases hx0 with rfl | rfl <;>
            · go_wp2
              go_loopw [9, 10] (fun ov i wr => ∃ m : Nat, m ≤ n ∧ i = .int .i64 m ∧ ov = .bool (overD T k q m) ∧ Bel wq wr) (fun _ i _ => n - (intOf i).toNat)
              case atStart => exact ⟨0, Nat.zero_le _, rfl, by rw [HT.out]; try rfl, Bel.refl _⟩
              case round =>
                clear e1 e2
                obtain ⟨m, hm, rfl, rfl, hbm⟩ := hrel
                have HN := Lib.hid (overD_next T k q m)
                obtain ⟨ov, hov⟩ : ∃ ov, ov = overD T k q m := ⟨_, rfl⟩
                rw [← hov] at HN ⊢
                have HOV := Lib.hid hov
                clear hov
                by_cases hml : m < n
                · have hmn : (m : Int) < (n : Int) := by omega
                  have hm0 : (0 : Int) ≤ (m : Int) := by omega
                  obtain ⟨b3, o3, c3, f1, f2⟩ := Ents.out wr ((hbw.trans hbq).trans hbm) k m hlt hml
                  obtain ⟨b4, o4, c4, f3, f4⟩ := Ents.out wr ((hbw.trans hbq).trans hbm) m q hml hql
                  have hx := HB.out.one k m hlt hml
                  have hy := HB.out.one m q hml hql
                  obtain ⟨x, hxe⟩ : ∃ x, x = ent T k m := ⟨_, rfl⟩
                  obtain ⟨y, hye⟩ : ∃ y, y = ent T m q := ⟨_, rfl⟩
                  rw [← hxe] at hx f2 HN
                  rw [← hye] at hy f4 HN
                  clear hxe hye
                  cases ov
                  · rcases hx with rfl | rfl <;> rcases hy with rfl | rfl <;>
                    · go_wp2
                      go_quiet (fail)
                      go_wp2
                      go_roundw
                      case rel => exact ⟨m + 1, by omega, by go_num, by rw [HN.out]; try rfl, by (repeat (first | exact Bel.refl _ | assumption | refine Bel.drew ?_ | refine Bel.drewN ?_ _ | refine Bel.alloc ?_ _ | refine Bel.setCell ?_ (by first | omega | (simp; done) | (simp; omega) | (simp at *; omega)) _ | refine Bel.trans ?_ (by assumption)))⟩
                      case measure => simp [intOf]; omega
                  · go_wp2
                    go_quiet (fail)
                    go_wp2
                    go_roundw
                    case rel => exact ⟨m + 1, by omega, by go_num, by rw [HN.out]; try rfl, by (repeat (first | exact Bel.refl _ | assumption | refine Bel.drew ?_ | refine Bel.drewN ?_ _ | refine Bel.alloc ?_ _ | refine Bel.setCell ?_ (by first | omega | (simp; done) | (simp; omega) | (simp at *; omega)) _ | refine Bel.trans ?_ (by assumption)))⟩
                    case measure => simp [intOf]; omega
                · obtain rfl : n = m := by omega
                  have HF := Lib.hid (show kingD T n k (q + 1) = (kd && ov) by rw [HKN.out, HOV.out])
                  cases kd <;> cases ov <;>
                  · go_wp2
                    go_roundw
                    case rel => exact ⟨q + 1, by omega, by go_num, by rw [HF.out]; try rfl, hbq.trans hbm⟩
                    case measure => simp [intOf]; omega
        · obtain rfl : n = q := by omega
          have hbn := hb.trans hbq
          have hbs := hbn.size
          rw [kingD_iff HB.out hlt]
          have HS := Lib.hid (show kingsTo T n (k + 1) = kingsTo T n k ++ if kingB T n k = true then [(k : Int)] else [] from rfl)
          have hl := kingsTo_len T n k
          have hO := HO.out.bel hbq
          obtain ⟨l, hll⟩ : ∃ l, l = kingsTo T n k := ⟨_, rfl⟩
          rw [← hll] at hO hl
          have HL := Lib.hid hll
          clear hll
          have hX1 := Lib.hid (show l.length + 1 ≤ maxLen by unfold maxLen; omega)
          have hX2 := Lib.hid (show (l.length + 1) * 8 ≤ 140737488355328 by omega)
          cases hkb : kingB T n k
          · have HQ : Hid (kingsTo T n (k + 1) = l) := by show _ = _; rw [HS.out, hkb, HL.out]; simp
            clear hkb
            go_wp2
            go_roundw
            case rel => exact ⟨k + 1, by omega, by go_num, hbn, by rw [HQ.out]; exact hO⟩
            case measure => simp [intOf]; omega
          · have HQ : Hid (kingsTo T n (k + 1) = l ++ [(k : Int)]) := by show _ = _; rw [HS.out, hkb, HL.out]; simp
            clear hkb
            go_wp2_with (at_builtin; go_loud (refine wpList_append_lies _ rfl (.tmp 71) (.tmp 73) 26 rfl w1.heap.size 3 i0 _ 1 8 Try.underlying26 hi hz0 hz1 hz2 rfl (by decide) u5 l.length (l.map fun x => .int .i64 x) (by rfl) (hO.alloc _) ⟨wr.heap.size, 0, none⟩ 1 1 [.int .i64 (k : Int)] (by rfl) rfl (new1 wr _ _ _ rfl) (one1 _) (by omega) hX1.out hX2.out (Nat.le_trans hbs (by simp)) _ rfl ?_); intro g3 cap3 w3 hown3 hgr3 _ hlt3)
            obtain ⟨hB3, hs3, hblk⟩ := after_app hbn (Nat.le_refl _) hO hbs hgr3
            have hO3 := Own1.snoc hown3
            clear hown3 hgr3 hlt3 hblk hO
            go_wp2
            go_roundw
            case rel => exact ⟨k + 1, by omega, by go_num, hB3, by rw [HQ.out]; exact hO3⟩
            case measure => simp [intOf]; omega
    · obtain rfl : n = k := by omega
      go_wp2
      go_ret2
      exact ⟨u5, _, rfl, hws, hb1.trans hb, hO⟩
set_option maxRecDepth 100000 in
set_option maxHeartbeats 2000000 in
theorem rkings_err (lo : Nat) (A : Option Addr) (n c : Nat) (T : List (List Int)) (w : World) (hR : Tab lo w A T) (hn : T.length = n) (hE : errT T ≠ 0) :
    Calls Try.prog 49 #[.slice A n c] w fun e w' => e = .returned (.tuple #[.slice none 0 0, .int .i64 (errT T)]) ∧ Bel w w' := by
  have Hn := Lib.hid hn
  have hE' : (errT T != 0) = true := by simpa using hE
  clear hn
  generalize hv : errT T = v at *
  have HV := Lib.hid hv
  clear hv
  go_enter Try.func49, Try.ntmps49
  go_wp2_with fail
  refine (rvalidate_any lo A n c T _ hR Hn.out).mono ?_
  rintro e w1 ⟨rfl, hb1⟩
  rw [HV.out]
  go_wp2
  go_ret2
  exact ⟨rfl, hb1⟩
set_option maxRecDepth 100000 in
set_option maxHeartbeats 2000000 in
theorem kings_err (lo : Nat) (A : Option Addr) (n c : Nat) (T : List (List Int)) (w : World) (hR : Tab lo w A T) (hn : T.length = n) (hE : errT T ≠ 0) :
    Calls Try.prog 50 #[.slice A n c] w fun e w' => e = .returned (.tuple #[.slice none 0 0, .int .i64 (errT T)]) ∧ Bel w w' := by
  have Hn := Lib.hid hn
  have hE' : (errT T != 0) = true := by simpa using hE
  clear hn
  generalize hv : errT T = v at *
  have HV := Lib.hid hv
  clear hv
  go_enter Try.func50, Try.ntmps50
  go_wp2_with fail
  refine (validate_any lo A n c T _ hR Hn.out).mono ?_
  rintro e w1 ⟨rfl, hb1⟩
  rw [HV.out]
  go_wp2
  go_ret2
  exact ⟨rfl, hb1⟩
end Go.Proofs.Ytahkihifgafbnaa
