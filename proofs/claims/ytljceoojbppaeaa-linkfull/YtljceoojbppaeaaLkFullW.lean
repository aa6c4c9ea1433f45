/-
  The walk of LinkFull.
-/
import Derived.Test.YtljceoojbppaeaaLkAwk
namespace Go.Proofs.Ytljceoojbppaeaa
open Go.RowKit D

/-- the first frames, of one byte each, as far as there is room. -/
def fsN (n : Nat) : List (List Int) := (List.range (min n 64)).map fun (i : Nat) => [(i : Int)]
theorem fsN_len (n : Nat) : (fsN n).length = min n 64 := by simp [fsN]
theorem fsN_succ {n : Nat} (h : n < 64) : fsN (n + 1) = fsN n ++ [[(n : Int)]] := by
  unfold fsN
  rw [show min (n + 1) 64 = n + 1 by omega, show min n 64 = n by omega, List.range_succ, List.map_append]
  rfl
theorem fsN_full {n : Nat} (h : 64 ≤ n) : fsN (n + 1) = fsN n := by
  unfold fsN
  rw [show min (n + 1) 64 = 64 by omega, show min n 64 = 64 by omega]
def fullS (more : Bool) (n : Nat) : Lk := lk0.put more (fsN n)
theorem full_sel (more : Bool) (n : Nat) : (fullS more n).sel more = fsN n := by cases more <;> rfl
theorem full_other (more : Bool) (n : Nat) : (fullS more n).sel (!more) = [] := by cases more <;> rfl
theorem full_may (more : Bool) (n : Nat) : maySend ((fullS more n).sel more) [(n : Int)] = decide (n < 64) := by
  rw [full_sel]
  unfold maySend
  rw [fsN_len]
  by_cases h : n < 64
  · rw [decide_eq_true h, decide_eq_true ⟨by omega, Nat.zero_lt_one, by simp⟩]
  · rw [decide_eq_false h, decide_eq_false fun e => by omega]
theorem full_send (more : Bool) (n : Nat) : (fullS more n).send more [(n : Int)] = fullS more (n + 1) := by
  unfold Lk.send
  rw [full_may, full_sel]
  by_cases h : n < 64
  · rw [decide_eq_true h, if_pos rfl]
    unfold fullS
    rw [fsN_succ h]
    cases more <;> rfl
  · rw [decide_eq_false h, if_neg (by decide)]
    unfold fullS
    rw [fsN_full (by omega)]
theorem full_zero (more : Bool) : fullS more 0 = lk0 := by cases more <;> rfl
theorem way_lt {s : Lk} {n : Int} (h : n < (s.u.length : Int)) : s.way n = true ∧ s.at n = n := ⟨decide_eq_true h, if_pos h⟩
theorem way_ge {s : Lk} {n : Int} (h : ¬ n < (s.u.length : Int)) : s.way n = false ∧ s.at n = n - (s.u.length : Int) := ⟨decide_eq_false h, if_neg h⟩
theorem full_way (more : Bool) (n : Nat) (h0 : 0 < n) : (fullS more n).way 0 = more ∧ (fullS more n).at 0 = 0 := by
  have hl := fsN_len n
  cases more with
  | true => exact way_lt (s := fullS true n) (by show (0 : Int) < ((fsN n).length : Int); omega)
  | false => exact way_ge (s := fullS false n) (by show ¬ (0 : Int) < 0; omega)
theorem full_twice (more : Bool) (n : Nat) : (fullS more n).mayTwice 0 = decide (0 < n ∧ n < 64) := by
  by_cases h0 : 0 < n
  · obtain ⟨h1, h2⟩ := full_way more n h0
    unfold Lk.mayTwice Lk.has
    rw [h1, h2, full_sel]
    unfold hasN
    rw [fsN_len, decide_eq_true (show (0 : Int) ≤ 0 ∧ (0 : Int) < ((min n 64 : Nat) : Int) by omega), Bool.true_and]
    by_cases h : n < 64
    · rw [decide_eq_true (by omega), decide_eq_true ⟨h0, h⟩]
    · rw [decide_eq_false (by omega), decide_eq_false fun e => h e.2]
  · obtain rfl : n = 0 := by omega
    rw [full_zero]
    rfl

set_option maxRecDepth 20000 in
set_option maxHeartbeats 8000000 in
theorem full_walk (w : World) (n : Int) (more : Bool) :
    Calls Try.prog 7 #[.int .i64 n, .bool more] w fun e w' => e = .returned (.bool true) ∧ Below w.heap.size w w' := by

  by_cases hlo : n < 0
  · go_enter Try.func7, Try.ntmps7
    go_wp2_with (go_at_call 8; refine (awake_any _).mono ?_; rintro e w1 ⟨rfl, hb1⟩)
    go_ret
    exact ⟨rfl, hb1⟩
  by_cases hhi : 70 < n
  · go_enter Try.func7, Try.ntmps7
    go_wp2_with (go_at_call 8; refine (awake_any _).mono ?_; rintro e w1 ⟨rfl, hb1⟩)
    go_ret
    exact ⟨rfl, hb1⟩
  obtain ⟨n, rfl⟩ : ∃ m : Nat, n = (m : Int) := ⟨n.toNat, by omega⟩
  have hn70 : (n : Int) ≤ 70 := by omega
  have hn0 : ¬ (n : Int) < 0 := by omega
  have hn71 : ¬ (70 : Int) < (n : Int) := by omega
  clear hlo hhi
  have hzv : ∀ W, (zeroValue 30).run Try.prog W = .ok (.agg zeroLk) W := zero_run
  have HN : Hid (∀ W, LkV (W.alloc (.cells zeroLk 30)) W.heap.size lk0 ∧ Below W.heap.size W (W.alloc (.cells zeroLk 30))) := fun W => ⟨lk_new W, alloc_below W _⟩
  generalize zeroLk = Z at *
  go_enter Try.func7, Try.ntmps7
  go_upto_region 5 with (go_at_call 8; refine (awake_any _).mono ?_; rintro e w1 ⟨rfl, hb1⟩)
  have HL2 : Hid (LkV (w1.alloc (.cells Z 30)) w1.heap.size lk0) := (HN.out w1).1
  have HB2 : Hid (Below w.heap.size w (w1.alloc (.cells Z 30)) ∧ w.heap.size ≤ w1.heap.size) := ⟨hb1.trans ((HN.out w1).2.mono hb1.size), hb1.size⟩
  clear HN hzv hb1
  generalize w1.alloc (.cells Z 30) = w2 at *
  generalize w1.heap.size = b at *
  go_wp2
  go_loopg [7] n (fun g vi wr => ∃ i : Nat, vi = .int .i64 i ∧ i + g = n ∧ Hid (LkV wr b (fullS more i) ∧ Below w.heap.size w wr))
  case atStart => exact ⟨0, rfl, Nat.zero_add _, by rw [full_zero]; exact HL2.out, HB2.out.1⟩
  case round =>
    obtain ⟨i, rfl, hig, hg⟩ := hrel
    have hgk : Hid (i + gk = n) := hig
    by_cases hlt : i < n
    · have hi1 : (i : Int) < (n : Int) := by omega
      have hi0 : (0 : Int) ≤ (i : Int) := by omega
      have hw : IntKind.u8.wrap (i : Int) = (i : Int) := by rw [IntKind.wrap_u8']; omega
      have b3 := alloc_below wr (.cells #[.int .u8 (i : Int)] 5)
      have HB3 : Hid (Below w.heap.size w (wr.alloc (.cells #[.int .u8 (i : Int)] 5))) := hg.out.2.trans (b3.mono hg.out.2.size)
      by_cases h64 : i < 64
      · have hi64 : (i : Int) < 64 := by omega
        have HS := send_to (up := more) (q := true) (s' := fullS more (i + 1)) (hg.out.1.over b3) (c := 1) (bs_one wr (i : Int) (by omega) (0, 0)) ((full_may more i).trans (decide_eq_true h64)) (full_send more i)
        clear b3 hig hg
        go_wp2_with (go_at_call 13; refine HS.mono ?_; rintro e w4 ⟨rfl, h4, k4⟩)
        have HL4 : Hid (LkV w4 b (fullS more (i + 1)) ∧ Below w.heap.size w w4) := ⟨h4, HB3.out.trans (k4.below HB3.out.size HB2.out.2)⟩
        clear h4 k4 HS
        go_roundg (gk - 1)
        case measure => (have := hgk.out; omega)
        case rel => exact ⟨i + 1, by go_num, by have := hgk.out; omega, HL4.out⟩
      · have hi64 : ¬ (i : Int) < 64 := by omega
        have HS := send_to (up := more) (q := false) (s' := fullS more (i + 1)) (hg.out.1.over b3) (c := 1) (bs_one wr (i : Int) (by omega) (0, 0)) ((full_may more i).trans (decide_eq_false h64)) (full_send more i)
        clear b3 hig hg
        go_wp2_with (go_at_call 13; refine HS.mono ?_; rintro e w4 ⟨rfl, h4, k4⟩)
        have HL4 : Hid (LkV w4 b (fullS more (i + 1)) ∧ Below w.heap.size w w4) := ⟨h4, HB3.out.trans (k4.below HB3.out.size HB2.out.2)⟩
        clear h4 k4 HS
        go_roundg (gk - 1)
        case measure => (have := hgk.out; omega)
        case rel => exact ⟨i + 1, by go_num, by have := hgk.out; omega, HL4.out⟩
    · have hi1 : ¬ (i : Int) < (n : Int) := by omega
      have hin : i = n := by omega
      have hD : Hid (LkV wr b (fullS more n) ∧ Below w.heap.size w wr) := by rw [← hin]; exact hg.out
      clear hig hgk hg hin hlt
      rcases (show n = 0 ∨ (0 < n ∧ n < 64) ∨ 64 ≤ n by omega) with h | ⟨h, h'⟩ | h
      · subst h
        have HK1 : Hid (((fullS more 0).sel more).length = 0) := by unfold Hid; rw [full_sel, fsN_len]; omega
        have HB : Hid (Below w.heap.size w wr) := hD.out.2
        have HLo : Hid (∀ W, Below wr.heap.size wr W → LkV W b (fullS more 0)) := fun W hW => hD.out.1.over hW
        have HFt : Hid ((fullS more 0).mayTwice 0 = false) := (full_twice more 0).trans (rfl)
        have HFo : Hid (((fullS more 0).sel (!more)).length = 0) := by rw [full_other]; rfl
        have HZ2 : Hid (lk0.send more [97] = lk0.put more [[97]] ∧ maySend (lk0.sel more) [97] = true ∧ (lk0.sel more).length = 0) := by cases more <;> exact ⟨rfl, rfl, rfl⟩
        clear hD
        generalize fullS more 0 = fs at *
        have kc := fun (w : World) (C : Array Value) (n c : Nat) => Lib.run_convert_bytes_const (P := Try.prog) w 37 5 C n c Try.underlying37 Try.underlying5
        have HA : Hid (∀ (u : Bool) (m : Nat) (W : World), Below wr.heap.size wr W → (fs.sel u).length = m → Calls Try.prog 11 #[.pointer (some ⟨b, 0, none⟩), .bool u] W fun e w' => e = .returned (.int .i64 m) ∧ Below wr.heap.size wr w') := fun u m W hW hm =>
          (len_to (HLo.out W hW) hm).mono fun e w' ⟨h1, h2⟩ => ⟨h1, hW.trans (h2.mono hW.size)⟩
        have HA1 : (fs.sel more).length = 0 := HK1.out
        have HA2 : (fs.sel (!more)).length = 0 := HFo.out
        have hb0 : Below wr.heap.size wr wr := Below.refl wr.heap.size wr
        have HT : Hid (∀ W, Below wr.heap.size wr W → Calls Try.prog 16 #[.pointer (some ⟨b, 0, none⟩), .int .i64 0] W fun e w' => e = .returned (.bool false) ∧ LkV w' b (fs.twice 0) ∧ Kb b W w' ∧ Hid (Below wr.heap.size wr W)) := fun W hW => (twice_to (HLo.out W hW) (by decide) HFt.out rfl).mono fun e w' ⟨h1, h2, h3⟩ => ⟨h1, h2, h3, hW⟩
        go_upto_region 12 with (first
          | (go_at_call 11; refine (HA.out _ _ _ (by assumption) (by assumption)).mono ?_; rintro e w5 ⟨rfl, hb5⟩)
          | (go_at_call 16; refine (HT.out _ (by assumption)).mono ?_; rintro e w7 ⟨rfl, h7, k7, HW⟩))
        have HB7 : Hid (Below w.heap.size w w7) := (HB.out.trans (HW.out.mono HB.out.size)).trans (k7.below (HB.out.trans (HW.out.mono HB.out.size)).size HB2.out.2)
        clear hb5 k7 hb0 HA1 HA2
        go_upto_region 13 with (go_at_call 18; refine (clear_any b _ w7 h7).mono ?_; rintro e w8 ⟨rfl, h8, k8⟩)
        have HB8 : Hid (Below w.heap.size w w8) := HB7.out.trans (k8.below HB7.out.size HB2.out.2)
        clear h7 k8
        have HL9 := len_to (up := more) (k := 0) h8 HZ2.out.2.2
        have HL8 : Hid (LkV w8 b lk0) := h8
        clear h8
        go_wp2_with (first
          | (go_at_call 11; refine HL9.mono ?_; rintro e w9 ⟨rfl, hb9⟩; have hbs := bs_one w9 97 (by decide) (1, 2); have hb10 := alloc_below w9 (.cells #[.int .u8 97] 5 (1, 2)))
          | (go_at_call 13; refine (send_to ((HL8.out.over hb9).over hb10) (c := 1) hbs HZ2.out.2.1 HZ2.out.1).mono ?_; rintro e w11 ⟨rfl, h11, k11⟩))
        all_goals
          go_ret
          exact ⟨rfl, ((HB8.out.trans (hb9.mono HB8.out.size)).trans (hb10.mono (HB8.out.trans (hb9.mono HB8.out.size)).size)).trans (k11.below (Nat.le_trans (HB8.out.trans (hb9.mono HB8.out.size)).size hb10.size) HB2.out.2)⟩
      · have hp : (0 : Int) < (n : Int) := by omega
        have hq : (n : Int) < 64 := by omega
        have hp2 : decide ((0 : Int) < (n : Int)) = true := decide_eq_true hp
        have hq2 : decide ((n : Int) < 64) = true := decide_eq_true hq
        have HK1 : Hid (((fullS more n).sel more).length = n) := by unfold Hid; rw [full_sel, fsN_len]; omega
        have HB : Hid (Below w.heap.size w wr) := hD.out.2
        have HLo : Hid (∀ W, Below wr.heap.size wr W → LkV W b (fullS more n)) := fun W hW => hD.out.1.over hW
        have HFt : Hid ((fullS more n).mayTwice 0 = true) := (full_twice more n).trans (decide_eq_true ⟨h, h'⟩)
        have HFo : Hid (((fullS more n).sel (!more)).length = 0) := by rw [full_other]; rfl
        have HZ2 : Hid (lk0.send more [97] = lk0.put more [[97]] ∧ maySend (lk0.sel more) [97] = true ∧ (lk0.sel more).length = 0) := by cases more <;> exact ⟨rfl, rfl, rfl⟩
        clear hD
        generalize fullS more n = fs at *
        have kc := fun (w : World) (C : Array Value) (n c : Nat) => Lib.run_convert_bytes_const (P := Try.prog) w 37 5 C n c Try.underlying37 Try.underlying5
        have HA : Hid (∀ (u : Bool) (m : Nat) (W : World), Below wr.heap.size wr W → (fs.sel u).length = m → Calls Try.prog 11 #[.pointer (some ⟨b, 0, none⟩), .bool u] W fun e w' => e = .returned (.int .i64 m) ∧ Below wr.heap.size wr w') := fun u m W hW hm =>
          (len_to (HLo.out W hW) hm).mono fun e w' ⟨h1, h2⟩ => ⟨h1, hW.trans (h2.mono hW.size)⟩
        have HA1 : (fs.sel more).length = n := HK1.out
        have HA2 : (fs.sel (!more)).length = 0 := HFo.out
        have hb0 : Below wr.heap.size wr wr := Below.refl wr.heap.size wr
        have HT : Hid (∀ W, Below wr.heap.size wr W → Calls Try.prog 16 #[.pointer (some ⟨b, 0, none⟩), .int .i64 0] W fun e w' => e = .returned (.bool true) ∧ LkV w' b (fs.twice 0) ∧ Kb b W w' ∧ Hid (Below wr.heap.size wr W)) := fun W hW => (twice_to (HLo.out W hW) (by decide) HFt.out rfl).mono fun e w' ⟨h1, h2, h3⟩ => ⟨h1, h2, h3, hW⟩
        go_upto_region 12 with (first
          | (go_at_call 11; refine (HA.out _ _ _ (by assumption) (by assumption)).mono ?_; rintro e w5 ⟨rfl, hb5⟩)
          | (go_at_call 16; refine (HT.out _ (by assumption)).mono ?_; rintro e w7 ⟨rfl, h7, k7, HW⟩))
        have HB7 : Hid (Below w.heap.size w w7) := (HB.out.trans (HW.out.mono HB.out.size)).trans (k7.below (HB.out.trans (HW.out.mono HB.out.size)).size HB2.out.2)
        clear hb5 k7 hb0 HA1 HA2
        go_upto_region 13 with (go_at_call 18; refine (clear_any b _ w7 h7).mono ?_; rintro e w8 ⟨rfl, h8, k8⟩)
        have HB8 : Hid (Below w.heap.size w w8) := HB7.out.trans (k8.below HB7.out.size HB2.out.2)
        clear h7 k8
        have HL9 := len_to (up := more) (k := 0) h8 HZ2.out.2.2
        have HL8 : Hid (LkV w8 b lk0) := h8
        clear h8
        go_wp2_with (first
          | (go_at_call 11; refine HL9.mono ?_; rintro e w9 ⟨rfl, hb9⟩; have hbs := bs_one w9 97 (by decide) (1, 2); have hb10 := alloc_below w9 (.cells #[.int .u8 97] 5 (1, 2)))
          | (go_at_call 13; refine (send_to ((HL8.out.over hb9).over hb10) (c := 1) hbs HZ2.out.2.1 HZ2.out.1).mono ?_; rintro e w11 ⟨rfl, h11, k11⟩))
        all_goals
          go_ret
          exact ⟨rfl, ((HB8.out.trans (hb9.mono HB8.out.size)).trans (hb10.mono (HB8.out.trans (hb9.mono HB8.out.size)).size)).trans (k11.below (Nat.le_trans (HB8.out.trans (hb9.mono HB8.out.size)).size hb10.size) HB2.out.2)⟩
      · have hp : (0 : Int) < (n : Int) := by omega
        have hq : ¬ (n : Int) < 64 := by omega
        have hp2 : decide ((0 : Int) < (n : Int)) = true := decide_eq_true hp
        have hq2 : decide ((n : Int) < 64) = false := decide_eq_false hq
        have HK1 : Hid (((fullS more n).sel more).length = 64) := by unfold Hid; rw [full_sel, fsN_len]; omega
        have HB : Hid (Below w.heap.size w wr) := hD.out.2
        have HLo : Hid (∀ W, Below wr.heap.size wr W → LkV W b (fullS more n)) := fun W hW => hD.out.1.over hW
        have HFt : Hid ((fullS more n).mayTwice 0 = false) := (full_twice more n).trans (decide_eq_false fun e => by omega)
        have HFo : Hid (((fullS more n).sel (!more)).length = 0) := by rw [full_other]; rfl
        have HZ2 : Hid (lk0.send more [97] = lk0.put more [[97]] ∧ maySend (lk0.sel more) [97] = true ∧ (lk0.sel more).length = 0) := by cases more <;> exact ⟨rfl, rfl, rfl⟩
        clear hD
        generalize fullS more n = fs at *
        have kc := fun (w : World) (C : Array Value) (n c : Nat) => Lib.run_convert_bytes_const (P := Try.prog) w 37 5 C n c Try.underlying37 Try.underlying5
        have HA : Hid (∀ (u : Bool) (m : Nat) (W : World), Below wr.heap.size wr W → (fs.sel u).length = m → Calls Try.prog 11 #[.pointer (some ⟨b, 0, none⟩), .bool u] W fun e w' => e = .returned (.int .i64 m) ∧ Below wr.heap.size wr w') := fun u m W hW hm =>
          (len_to (HLo.out W hW) hm).mono fun e w' ⟨h1, h2⟩ => ⟨h1, hW.trans (h2.mono hW.size)⟩
        have HA1 : (fs.sel more).length = 64 := HK1.out
        have HA2 : (fs.sel (!more)).length = 0 := HFo.out
        have hb0 : Below wr.heap.size wr wr := Below.refl wr.heap.size wr
        have HT : Hid (∀ W, Below wr.heap.size wr W → Calls Try.prog 16 #[.pointer (some ⟨b, 0, none⟩), .int .i64 0] W fun e w' => e = .returned (.bool false) ∧ LkV w' b (fs.twice 0) ∧ Kb b W w' ∧ Hid (Below wr.heap.size wr W)) := fun W hW => (twice_to (HLo.out W hW) (by decide) HFt.out rfl).mono fun e w' ⟨h1, h2, h3⟩ => ⟨h1, h2, h3, hW⟩
        go_upto_region 12 with (first
          | (go_at_call 11; refine (HA.out _ _ _ (by assumption) (by assumption)).mono ?_; rintro e w5 ⟨rfl, hb5⟩)
          | (go_at_call 16; refine (HT.out _ (by assumption)).mono ?_; rintro e w7 ⟨rfl, h7, k7, HW⟩))
        have HB7 : Hid (Below w.heap.size w w7) := (HB.out.trans (HW.out.mono HB.out.size)).trans (k7.below (HB.out.trans (HW.out.mono HB.out.size)).size HB2.out.2)
        clear hb5 k7 hb0 HA1 HA2
        go_upto_region 13 with (go_at_call 18; refine (clear_any b _ w7 h7).mono ?_; rintro e w8 ⟨rfl, h8, k8⟩)
        have HB8 : Hid (Below w.heap.size w w8) := HB7.out.trans (k8.below HB7.out.size HB2.out.2)
        clear h7 k8
        have HL9 := len_to (up := more) (k := 0) h8 HZ2.out.2.2
        have HL8 : Hid (LkV w8 b lk0) := h8
        clear h8
        go_wp2_with (first
          | (go_at_call 11; refine HL9.mono ?_; rintro e w9 ⟨rfl, hb9⟩; have hbs := bs_one w9 97 (by decide) (1, 2); have hb10 := alloc_below w9 (.cells #[.int .u8 97] 5 (1, 2)))
          | (go_at_call 13; refine (send_to ((HL8.out.over hb9).over hb10) (c := 1) hbs HZ2.out.2.1 HZ2.out.1).mono ?_; rintro e w11 ⟨rfl, h11, k11⟩))
        all_goals
          go_ret
          exact ⟨rfl, ((HB8.out.trans (hb9.mono HB8.out.size)).trans (hb10.mono (HB8.out.trans (hb9.mono HB8.out.size)).size)).trans (k11.below (Nat.le_trans (HB8.out.trans (hb9.mono HB8.out.size)).size hb10.size) HB2.out.2)⟩

end Go.Proofs.Ytljceoojbppaeaa
