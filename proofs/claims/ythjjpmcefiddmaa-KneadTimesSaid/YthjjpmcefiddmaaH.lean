/- once, Out, In, UnOut, UnIn; behind; Clone, Fold. -/
import Derived.Test.YthjjpmcefiddmaaG
namespace Go.Proofs.Ythjjpmcefiddmaa
open Go.RowKit

/-- A result that is a new batch, with no error. -/
def Made0 (n : Nat) (f : Nat → Int) (w : World) (e : Ending) (w' : World) : Prop := ∃ g, e = .returned (.tuple #[.slice (some ⟨g, 0, none⟩) n n, .int .i64 0]) ∧ w.heap.size ≤ g ∧ Bel w w' ∧ Row w' g n n f
set_option maxRecDepth 100000 in
set_option maxHeartbeats 1000000 in
theorem onceOut_ok (b o h c : Nat) (w : World) (F : Nat → Int) (h1 : 1 ≤ h) (h16 : h ≤ 16) (hq : Calls Try.prog 84 #[.slice (some ⟨b, o, none⟩) (2 * h) c] w (Made (2 * h) F w)) :
    Calls Try.prog 83 #[.slice (some ⟨b, o, none⟩) (2 * h) c, .func (Fn.func 84) #[.slice (some ⟨b, o, none⟩) (2 * h) c] #[]] w (Made0 (2 * h) F w) := by
  have HE := Lib.hid (eD_half h1 h16)
  go_enter Try.func83, Try.ntmps83
  go_wp2_with fail
  refine (validate_any _ (2 * h) c _).mono ?_
  rintro e w1 ⟨rfl, rfl⟩
  rw [HE.out]
  go_wp2_with fail
  refine hq.mono ?_
  rintro e w2 ⟨g, rfl, hg, hb2, hr⟩
  go_wp2
  exact bodyPost_ret (v := .tuple #[.slice (some ⟨g, 0, none⟩) (2 * h) (2 * h), .int .i64 0]) (by simp [results, Try.results83, go_sem]) rfl ⟨g, rfl, hg, hb2, hr⟩
set_option maxRecDepth 100000 in
set_option maxHeartbeats 1000000 in
theorem onceIn_ok (b o h c : Nat) (w : World) (F : Nat → Int) (h1 : 1 ≤ h) (h16 : h ≤ 16) (hq : Calls Try.prog 85 #[.slice (some ⟨b, o, none⟩) (2 * h) c] w (Made (2 * h) F w)) :
    Calls Try.prog 83 #[.slice (some ⟨b, o, none⟩) (2 * h) c, .func (Fn.func 85) #[.slice (some ⟨b, o, none⟩) (2 * h) c] #[]] w (Made0 (2 * h) F w) := by
  have HE := Lib.hid (eD_half h1 h16)
  go_enter Try.func83, Try.ntmps83
  go_wp2_with fail
  refine (validate_any _ (2 * h) c _).mono ?_
  rintro e w1 ⟨rfl, rfl⟩
  rw [HE.out]
  go_wp2_with fail
  refine hq.mono ?_
  rintro e w2 ⟨g, rfl, hg, hb2, hr⟩
  go_wp2
  exact bodyPost_ret (v := .tuple #[.slice (some ⟨g, 0, none⟩) (2 * h) (2 * h), .int .i64 0]) (by simp [results, Try.results83, go_sem]) rfl ⟨g, rfl, hg, hb2, hr⟩
set_option maxRecDepth 100000 in
set_option maxHeartbeats 1000000 in
theorem onceUnOut_ok (b o h c : Nat) (w : World) (F : Nat → Int) (h1 : 1 ≤ h) (h16 : h ≤ 16) (hq : Calls Try.prog 86 #[.slice (some ⟨b, o, none⟩) (2 * h) c] w (Made (2 * h) F w)) :
    Calls Try.prog 83 #[.slice (some ⟨b, o, none⟩) (2 * h) c, .func (Fn.func 86) #[.slice (some ⟨b, o, none⟩) (2 * h) c] #[]] w (Made0 (2 * h) F w) := by
  have HE := Lib.hid (eD_half h1 h16)
  go_enter Try.func83, Try.ntmps83
  go_wp2_with fail
  refine (validate_any _ (2 * h) c _).mono ?_
  rintro e w1 ⟨rfl, rfl⟩
  rw [HE.out]
  go_wp2_with fail
  refine hq.mono ?_
  rintro e w2 ⟨g, rfl, hg, hb2, hr⟩
  go_wp2
  exact bodyPost_ret (v := .tuple #[.slice (some ⟨g, 0, none⟩) (2 * h) (2 * h), .int .i64 0]) (by simp [results, Try.results83, go_sem]) rfl ⟨g, rfl, hg, hb2, hr⟩
set_option maxRecDepth 100000 in
set_option maxHeartbeats 1000000 in
theorem onceUnIn_ok (b o h c : Nat) (w : World) (F : Nat → Int) (h1 : 1 ≤ h) (h16 : h ≤ 16) (hq : Calls Try.prog 87 #[.slice (some ⟨b, o, none⟩) (2 * h) c] w (Made (2 * h) F w)) :
    Calls Try.prog 83 #[.slice (some ⟨b, o, none⟩) (2 * h) c, .func (Fn.func 87) #[.slice (some ⟨b, o, none⟩) (2 * h) c] #[]] w (Made0 (2 * h) F w) := by
  have HE := Lib.hid (eD_half h1 h16)
  go_enter Try.func83, Try.ntmps83
  go_wp2_with fail
  refine (validate_any _ (2 * h) c _).mono ?_
  rintro e w1 ⟨rfl, rfl⟩
  rw [HE.out]
  go_wp2_with fail
  refine hq.mono ?_
  rintro e w2 ⟨g, rfl, hg, hb2, hr⟩
  go_wp2
  exact bodyPost_ret (v := .tuple #[.slice (some ⟨g, 0, none⟩) (2 * h) (2 * h), .int .i64 0]) (by simp [results, Try.results83, go_sem]) rfl ⟨g, rfl, hg, hb2, hr⟩
set_option maxRecDepth 100000 in
set_option maxHeartbeats 1000000 in
theorem once_err (A : Option Addr) (n c : Nat) (v : Value) (w : World) (hE : eD n ≠ 0) :
    Calls Try.prog 83 #[.slice A n c, v] w fun e w' => e = .returned (.tuple #[.slice none 0 0, .int .i64 1]) ∧ Bel w w' := by
  have HE := Lib.hid (eD_one hE)
  clear hE
  go_enter Try.func83, Try.ntmps83
  go_wp2_with fail
  refine (validate_any _ n c _).mono ?_
  rintro e w1 ⟨rfl, rfl⟩
  rw [HE.out]
  go_wp2
  exact bodyPost_ret (v := .tuple #[.slice none 0 0, .int .i64 1]) (by simp [results, Try.results83, go_sem]) rfl ⟨rfl, Bel.refl _⟩
set_option maxRecDepth 100000 in
set_option maxHeartbeats 1000000 in
theorem kOut_ok (b o h c : Nat) (f : Nat → Int) (w : World) (hS : Seg w b o (2 * h) f) (h1 : 1 ≤ h) (h16 : h ≤ 16) (hc : 2 * h ≤ c) :
    Calls Try.prog 43 #[.slice (some ⟨b, o, none⟩) (2 * h) c] w (Made0 (2 * h) (fun q => f (unN h 0 q)) w) := by
  have hm := hmf
  have hO := onceOut_ok b o h c w _ h1 h16 (out_any b o h c f w hS h1 h16 hc)
  go_enter Try.func43, Try.ntmps43
  go_wp2_with fail
  refine hO.mono ?_
  rintro e w1 ⟨g, rfl, hg, hb1, hr⟩
  go_wp2
  exact bodyPost_ret (v := .tuple #[.slice (some ⟨g, 0, none⟩) (2 * h) (2 * h), .int .i64 0]) (by simp [results, Try.results43, go_sem]) rfl ⟨g, rfl, hg, hb1, hr⟩
set_option maxRecDepth 100000 in
set_option maxHeartbeats 1000000 in
theorem kOut_err (A : Option Addr) (n c : Nat) (w : World) (hE : eD n ≠ 0) :
    Calls Try.prog 43 #[.slice A n c] w fun e w' => e = .returned (.tuple #[.slice none 0 0, .int .i64 1]) ∧ Bel w w' := by
  have hm := hmf
  go_enter Try.func43, Try.ntmps43
  go_wp2_with fail
  refine (once_err A n c _ _ hE).mono ?_
  rintro e w1 ⟨rfl, hb1⟩
  go_wp2
  exact bodyPost_ret (v := .tuple #[.slice none 0 0, .int .i64 1]) (by simp [results, Try.results43, go_sem]) rfl ⟨rfl, hb1⟩
set_option maxRecDepth 100000 in
set_option maxHeartbeats 1000000 in
theorem kIn_ok (b o h c : Nat) (f : Nat → Int) (w : World) (hS : Seg w b o (2 * h) f) (h1 : 1 ≤ h) (h16 : h ≤ 16) (hc : 2 * h ≤ c) :
    Calls Try.prog 44 #[.slice (some ⟨b, o, none⟩) (2 * h) c] w (Made0 (2 * h) (fun q => f (unN h 1 q)) w) := by
  have hm := hmf
  have hO := onceIn_ok b o h c w _ h1 h16 (in_any b o h c f w hS h1 h16 hc)
  go_enter Try.func44, Try.ntmps44
  go_wp2_with fail
  refine hO.mono ?_
  rintro e w1 ⟨g, rfl, hg, hb1, hr⟩
  go_wp2
  exact bodyPost_ret (v := .tuple #[.slice (some ⟨g, 0, none⟩) (2 * h) (2 * h), .int .i64 0]) (by simp [results, Try.results44, go_sem]) rfl ⟨g, rfl, hg, hb1, hr⟩
set_option maxRecDepth 100000 in
set_option maxHeartbeats 1000000 in
theorem kIn_err (A : Option Addr) (n c : Nat) (w : World) (hE : eD n ≠ 0) :
    Calls Try.prog 44 #[.slice A n c] w fun e w' => e = .returned (.tuple #[.slice none 0 0, .int .i64 1]) ∧ Bel w w' := by
  have hm := hmf
  go_enter Try.func44, Try.ntmps44
  go_wp2_with fail
  refine (once_err A n c _ _ hE).mono ?_
  rintro e w1 ⟨rfl, hb1⟩
  go_wp2
  exact bodyPost_ret (v := .tuple #[.slice none 0 0, .int .i64 1]) (by simp [results, Try.results44, go_sem]) rfl ⟨rfl, hb1⟩
set_option maxRecDepth 100000 in
set_option maxHeartbeats 1000000 in
theorem kUnOut_ok (b o h c : Nat) (f : Nat → Int) (w : World) (hS : Seg w b o (2 * h) f) (h1 : 1 ≤ h) (h16 : h ≤ 16) (_hc : 2 * h ≤ c) :
    Calls Try.prog 45 #[.slice (some ⟨b, o, none⟩) (2 * h) c] w (Made0 (2 * h) (fun q => f (goN h 0 q)) w) := by
  have hm := hmf
  have hO := onceUnOut_ok b o h c w _ h1 h16 (unOut_any b o h c f w hS h1 h16)
  go_enter Try.func45, Try.ntmps45
  go_wp2_with fail
  refine hO.mono ?_
  rintro e w1 ⟨g, rfl, hg, hb1, hr⟩
  go_wp2
  exact bodyPost_ret (v := .tuple #[.slice (some ⟨g, 0, none⟩) (2 * h) (2 * h), .int .i64 0]) (by simp [results, Try.results45, go_sem]) rfl ⟨g, rfl, hg, hb1, hr⟩
set_option maxRecDepth 100000 in
set_option maxHeartbeats 1000000 in
theorem kUnOut_err (A : Option Addr) (n c : Nat) (w : World) (hE : eD n ≠ 0) :
    Calls Try.prog 45 #[.slice A n c] w fun e w' => e = .returned (.tuple #[.slice none 0 0, .int .i64 1]) ∧ Bel w w' := by
  have hm := hmf
  go_enter Try.func45, Try.ntmps45
  go_wp2_with fail
  refine (once_err A n c _ _ hE).mono ?_
  rintro e w1 ⟨rfl, hb1⟩
  go_wp2
  exact bodyPost_ret (v := .tuple #[.slice none 0 0, .int .i64 1]) (by simp [results, Try.results45, go_sem]) rfl ⟨rfl, hb1⟩
set_option maxRecDepth 100000 in
set_option maxHeartbeats 1000000 in
theorem kUnIn_ok (b o h c : Nat) (f : Nat → Int) (w : World) (hS : Seg w b o (2 * h) f) (h1 : 1 ≤ h) (h16 : h ≤ 16) (_hc : 2 * h ≤ c) :
    Calls Try.prog 46 #[.slice (some ⟨b, o, none⟩) (2 * h) c] w (Made0 (2 * h) (fun q => f (goN h 1 q)) w) := by
  have hm := hmf
  have hO := onceUnIn_ok b o h c w _ h1 h16 (unIn_any b o h c f w hS h1 h16)
  go_enter Try.func46, Try.ntmps46
  go_wp2_with fail
  refine hO.mono ?_
  rintro e w1 ⟨g, rfl, hg, hb1, hr⟩
  go_wp2
  exact bodyPost_ret (v := .tuple #[.slice (some ⟨g, 0, none⟩) (2 * h) (2 * h), .int .i64 0]) (by simp [results, Try.results46, go_sem]) rfl ⟨g, rfl, hg, hb1, hr⟩
set_option maxRecDepth 100000 in
set_option maxHeartbeats 1000000 in
theorem kUnIn_err (A : Option Addr) (n c : Nat) (w : World) (hE : eD n ≠ 0) :
    Calls Try.prog 46 #[.slice A n c] w fun e w' => e = .returned (.tuple #[.slice none 0 0, .int .i64 1]) ∧ Bel w w' := by
  have hm := hmf
  go_enter Try.func46, Try.ntmps46
  go_wp2_with fail
  refine (once_err A n c _ _ hE).mono ?_
  rintro e w1 ⟨rfl, hb1⟩
  go_wp2
  exact bodyPost_ret (v := .tuple #[.slice none 0 0, .int .i64 1]) (by simp [results, Try.results46, go_sem]) rfl ⟨rfl, hb1⟩
theorem Seg.congr {w : World} {b o h : Nat} {f f' : Nat → Int} (hs : Seg w b o h f) (e : ∀ q, q < h → f' q = f q) : Seg w b o h f' := ⟨hs.lt, fun i hi => by rw [e i hi]; exact hs.cells i hi⟩
/-- A batch of 2 * h lumps, wherever it lies. -/
def Batch (h : Nat) (f : Nat → Int) (w : World) (v : Value) : Prop := ∃ b o c, v = .slice (some ⟨b, o, none⟩) (2 * h) c ∧ 2 * h ≤ c ∧ Seg w b o (2 * h) f
theorem Batch.congr {h : Nat} {f f' : Nat → Int} {w : World} {v : Value} (hB : Batch h f w v) (e : ∀ q, q < 2 * h → f' q = f q) : Batch h f' w v := by
  obtain ⟨b, o, c, rfl, hc, hS⟩ := hB
  exact ⟨b, o, c, rfl, hc, hS.lt, fun i hi => by rw [e i hi]; exact hS.cells i hi⟩
theorem Batch.bel {h : Nat} {f : Nat → Int} {w w' : World} {v : Value} (hB : Batch h f w v) (hb : Bel w w') : Batch h f w' v := by
  obtain ⟨b, o, c, rfl, hc, hS⟩ := hB
  exact ⟨b, o, c, rfl, hc, hS.bel hb⟩
set_option maxRecDepth 100000 in
set_option maxHeartbeats 1000000 in
theorem behind_any (h : Nat) (v : Value) (A : Option Addr) (n c : Nat) (ws : List Int) (f : Nat → Int) (w : World) (hB : Batch h f w v) (h1 : 1 ≤ h) (h16 : h ≤ 16) (hR : Ints w A ws) (hn : ws.length = n) (hmax : n ≤ maxLen) (hW : WordOK ws) :
    Calls Try.prog 57 #[v, .slice A n c] w fun e w' => ∃ v', e = .returned v' ∧ Bel w w' ∧ Batch h (fun q => f (unW h ws q)) w' v' := by
  have Hn := Lib.hid hn; have HW := Lib.hid hW
  have hni : (n : Int) ≤ 9223372036854775807 := by unfold maxLen at hmax; omega
  clear hn hW
  go_enter Try.func57, Try.ntmps57
  go_wp2
  go_loopw [0, 6, 9] (fun bv _ i wr => ∃ k : Nat, k ≤ n ∧ i = .int .i64 k ∧ Bel w wr ∧ Batch h (fun q => f (unW h (ws.take k) q)) wr bv) (fun _ _ i _ => n - (intOf i).toNat)
  case atStart => exact ⟨0, Nat.zero_le _, rfl, Bel.refl _, hB⟩
  case round =>
    clear hB
    obtain ⟨k, hk, rfl, hb, b, o, c', rfl, hc', hS⟩ := hrel
    by_cases hlt : k < n
    · obtain ⟨b1, o1, x, rfl, hbl, hg, hc1⟩ := (hR.bel hb).at_ (k := k) (by rw [Hn.out]; exact hlt)
      have HT := Lib.hid (take_at hg)
      obtain ⟨m, hm1, hm2⟩ : ∃ m : Nat, m ≤ 1 ∧ x = (m : Int) := ⟨_, (HW.out.nat (List.mem_of_getElem? hg)).1, (HW.out.nat (List.mem_of_getElem? hg)).2⟩
      subst hm2
      clear hg
      rcases (by omega : m = 0 ∨ m = 1) with rfl | rfl
      all_goals
        go_wp2_with fail
        refine (fold_any _ _ hm1 _).mono ?_
        rintro e w1 ⟨rfl, rfl⟩
        go_wp2_with fail
        first | refine (out_any b o h c' _ _ hS h1 h16 hc').mono ?_ | refine (in_any b o h c' _ _ hS h1 h16 hc').mono ?_
        rintro e w2 ⟨g, rfl, hg, hb2, hr⟩
        go_wp2
        go_roundw
        case rel => exact ⟨k + 1, by omega, by go_num, hb.trans hb2, ⟨g, 0, 2 * h, rfl, Nat.le_refl _, (Seg.of_row hr).congr fun q _ => by rw [HT.out, unW_app]; rfl⟩⟩
        case measure => simp [intOf]; omega
    · obtain rfl : k = n := by omega
      have HT := Lib.hid (show ws.take k = ws from List.take_of_length_le (by rw [Hn.out]; omega))
      rw [HT.out] at hS
      go_wp2
      go_ret
      exact ⟨_, rfl, hb, b, o, c', rfl, hc', hS⟩
end Go.Proofs.Ythjjpmcefiddmaa
