/- Kings of the program; winsOver. -/
import Derived.Test.YtahkihifgafbnaaM
import Derived.Test.YtahkihifgafbnaaJ
namespace Go.Proofs.Ytahkihifgafbnaa
open Go.RowKit

attribute [local go_sem] Oper.semAt_some

/-- The kings among the first k strips. -/
def kingsTo (T : List (List Int)) (n : Nat) : Nat → List Int
  | 0 => []
  | k + 1 => kingsTo T n k ++ if kingB T n k = true then [(k : Int)] else []
theorem kingsTo_len (T : List (List Int)) (n k : Nat) : (kingsTo T n k).length ≤ k := by
  induction k with
  | zero => simp [kingsTo]
  | succ k ih =>
    rw [kingsTo, List.length_append]
    split <;> simp <;> omega

set_option maxRecDepth 100000 in
set_option maxHeartbeats 2000000 in
theorem kings_ok (lo : Nat) (A : Option Addr) (n c : Nat) (T : List (List Int)) (w : World) (hR : Tab lo w A T) (hn : T.length = n) (hE : errT T = 0) :
    Calls Try.prog 50 #[.slice A n c] w fun e w' => ∃ v base, e = .returned (.tuple #[v, .int .i64 0]) ∧ w.heap.size ≤ base ∧ Bel w w' ∧ Own1 3 base w' v (kingsTo T n n) := by
  obtain ⟨⟨h1, h7⟩, hrw, -⟩ := errT_zero hE
  rw [hn] at h1 h7 hrw
  have hsq := rowsB_square hn hrw
  have hN := hR.toN hsq h1
  obtain ⟨i0, hi, hz0, hz1, hz2⟩ := info_parts info1I
  have HE := Lib.hid hE; have Hn := Lib.hid hn; have HSQ := Lib.hid hsq
  clear hE hn hrw hsq
  go_enter Try.func50, Try.ntmps50
  go_wp2_with fail
  refine (validate_any lo A n c T _ hR Hn.out).mono ?_
  rintro e w1 ⟨rfl, hb1⟩
  rw [HE.out]
  have hws : w.heap.size ≤ w1.heap.size := hb1.size
  go_wp2
  go_loopw [5, 14] (fun v i wr => ∃ k : Nat, k ≤ n ∧ i = .int .i64 k ∧ Bel w1 wr ∧ Own1 3 w1.heap.size wr v (kingsTo T n k)) (fun _ i _ => n - (intOf i).toNat)
  case atStart => exact ⟨0, Nat.zero_le _, rfl, Bel.refl _, Own1.nil _ _ _⟩
  case round =>
    obtain ⟨k, hk, rfl, hb, hO⟩ := hrel
    by_cases hlt : k < n
    · have hkn : (k : Int) < (n : Int) := by omega
      have HS := Lib.hid (show kingsTo T n (k + 1) = kingsTo T n k ++ if kingB T n k = true then [(k : Int)] else [] from rfl)
      have hl := kingsTo_len T n k
      obtain ⟨l, hll⟩ : ∃ l, l = kingsTo T n k := ⟨_, rfl⟩
      rw [← hll] at hO hl
      have HL := Lib.hid hll
      have hbs := hb.size
      clear hll
      have hX1 := Lib.hid (show l.length + 1 ≤ maxLen by unfold maxLen; omega)
      have hX2 := Lib.hid (show (l.length + 1) * 8 ≤ 140737488355328 by omega)
      have hNw : TabN (· < w.heap.size) wr A T := hN.kept (fun x hx => (hb1.trans hb).block x hx)
      have hSw : ∀ x, (fun x => x < w.heap.size) x → x < wr.heap.size := fun x (hx : x < w.heap.size) => by omega
      cases hkb : kingB T n k
      · have HQ : Hid (kingsTo T n (k + 1) = l) := by show _ = _; rw [HS.out, hkb, HL.out]; simp
        go_wp2_with fail
        refine (king_any _ A n c k T _ hNw hSw HSQ.out (by omega) hlt).mono ?_
        rintro e w2 ⟨rfl, hb2⟩
        rw [hkb]
        go_wp2
        go_roundw
        case rel => exact ⟨k + 1, by omega, by go_num, hb.trans hb2, by rw [HQ.out]; exact hO.bel hb2⟩
        case measure => simp [intOf]; omega
      · have HQ : Hid (kingsTo T n (k + 1) = l ++ [(k : Int)]) := by show _ = _; rw [HS.out, hkb, HL.out]; simp
        go_wp2_with fail
        refine (king_any _ A n c k T _ hNw hSw HSQ.out (by omega) hlt).mono ?_
        rintro e w2 ⟨rfl, hb2⟩
        rw [hkb]
        have hbs2 := hb2.size
        have hO2 := hO.bel hb2
        have hbw2 := hb.trans hb2
        clear hO hb hNw
        go_wp2_with (at_builtin; go_loud (refine wpList_append_lies _ rfl (.tmp 20) (.tmp 22) 26 rfl w1.heap.size 3 i0 _ 1 8 Try.underlying26 hi hz0 hz1 hz2 rfl (by decide) u5 l.length (l.map fun x => .int .i64 x) (by rfl) (hO2.alloc _) ⟨w2.heap.size, 0, none⟩ 1 1 [.int .i64 (k : Int)] (by rfl) rfl (new1 w2 _ _ _ rfl) (one1 _) (by omega) hX1.out hX2.out (Nat.le_trans (Nat.le_trans hbs hbs2) (by simp)) _ rfl ?_); intro g3 cap3 w3 hown3 hgr3 _ hlt3)
        obtain ⟨hB3, hs3, hblk⟩ := after_app hbw2 (Nat.le_refl _) hO2 (Nat.le_trans hbs hbs2) hgr3
        have hO3 := Own1.snoc hown3
        clear hown3 hgr3 hlt3 hblk hO2
        go_roundw
        case rel => exact ⟨k + 1, by omega, by go_num, hB3, by rw [HQ.out]; exact hO3⟩
        case measure => simp [intOf]; omega
    · obtain rfl : n = k := by omega
      go_wp2
      go_ret2
      exact ⟨u5, _, rfl, hws, hb1.trans hb, hO⟩
/-- How many of the strips in a list a strip beats. -/
def beatN (T : List (List Int)) (s : Nat) (l : List Int) : Nat := l.countP fun x => decide (ent T s x.toNat = 1)
theorem beatN_next {T : List (List Int)} {s k : Nat} {l : List Int} {x : Int} (h : l[k]? = some x) : beatN T s (l.take (k + 1)) = beatN T s (l.take k) + if ent T s x.toNat = 1 then 1 else 0 := by
  unfold beatN
  rw [take_at h, List.countP_append]
  by_cases q : ent T s x.toNat = 1 <;> simp [q]
theorem beatN_le (T : List (List Int)) (s : Nat) (l : List Int) : beatN T s l ≤ l.length := List.countP_le_length

set_option maxRecDepth 100000 in
set_option maxHeartbeats 2000000 in
theorem winsOver_any (S : Nat → Prop) (A : Option Addr) (m c s : Nat) (T : List (List Int)) (B : Option Addr) (q d : Nat) (ns : List Int) (w : World) (hT : TabN S w A T) (hs : Square T m) (hsm : s < m) (hB : Ints w B ns) (hq : ns.length = q) (hq9 : q ≤ 100) (hns : ∀ x ∈ ns, 0 ≤ x ∧ x < m) :
    Calls Try.prog 98 #[.slice A m c, .int .i64 (s : Int), .slice B q d] w fun e w' => e = .returned (.int .i64 (beatN T s ns : Nat)) ∧ w = w' := by
  have HSQ := Lib.hid hs; have Hq := Lib.hid hq
  clear hs hq
  go_enter Try.func98, Try.ntmps98
  go_wp2
  go_loopw [7, 12] (fun v i wr => ∃ k : Nat, k ≤ q ∧ i = .int .i64 k ∧ v = .int .i64 (beatN T s (ns.take k) : Nat) ∧ w = wr) (fun _ i _ => q - (intOf i).toNat)
  case atStart => exact ⟨0, Nat.zero_le _, rfl, by simp [beatN], rfl⟩
  case round =>
    obtain ⟨k, hk, rfl, rfl, rfl⟩ := hrel
    by_cases hlt : k < q
    · obtain ⟨b, o, v0, rfl, hbl, hgk, hcell⟩ := hB.at_ (k := k) (by rw [Hq.out]; exact hlt)
      have hkn : (k : Int) < (q : Int) := by omega
      obtain ⟨g0, gm⟩ := hns v0 (List.mem_of_getElem? hgk)
      obtain ⟨x, rfl⟩ : ∃ x : Nat, v0 = x := ⟨v0.toNat, by omega⟩
      have hxm : x < m := by omega
      have HS := Lib.hid (beatN_next (T := T) (s := s) hgk)
      have hle : beatN T s (ns.take k) ≤ 100 := Nat.le_trans (beatN_le _ _ _) (by rw [List.length_take]; omega)
      obtain ⟨cnt, hcnt⟩ : ∃ cnt, cnt = beatN T s (ns.take k) := ⟨_, rfl⟩
      rw [← hcnt] at hle ⊢
      have HC := Lib.hid hcnt
      clear hcnt hgk g0 gm
      by_cases hd : ent T s x = 1
      · have hdd : decide (ent T s x = 1) = true := by simpa using hd
        go_wp2_with fail
        refine (beats_any S A m c s x T _ hT HSQ.out hsm hxm).mono ?_
        rintro e w' ⟨rfl, rfl⟩
        rw [hdd]
        go_wp2
        go_roundw
        case rel => exact ⟨k + 1, by omega, by go_num, by rw [HS.out, ← HC.out]; simp [hd], by first | rfl | trivial⟩
        case measure => simp [intOf]; omega
      · have hdd : decide (ent T s x = 1) = false := by simpa using hd
        go_wp2_with fail
        refine (beats_any S A m c s x T _ hT HSQ.out hsm hxm).mono ?_
        rintro e w' ⟨rfl, rfl⟩
        rw [hdd]
        go_wp2
        go_roundw
        case rel => exact ⟨k + 1, by omega, by go_num, by rw [HS.out, ← HC.out]; simp [hd], by first | rfl | trivial⟩
        case measure => simp [intOf]; omega
    · obtain rfl : q = k := by omega
      go_wp2
      go_ret
      exact ⟨by rw [List.take_of_length_le (by rw [Hq.out]; omega)]; rfl, rfl⟩
end Go.Proofs.Ytahkihifgafbnaa
