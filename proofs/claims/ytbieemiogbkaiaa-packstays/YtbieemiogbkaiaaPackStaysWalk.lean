/-
  The law PackStays, walked: true for every number, all bytes and all asks.
-/
import Derived.Test.YtbieemiogbkaiaaArgs
namespace Go.Proofs.Ytbieemiogbkaiaa
open Go.RowKit

theorem numW_nine (n : Int) : numW ([], 0) n 9 = ([], 1) := by unfold numW; rw [if_neg (by omega)]; rfl
theorem numW_wrong (n s : Int) : numW ([], 1) n s = ([], 1) := by
  unfold numW
  split
  · rfl
  · rfl
theorem numR_none (l : List Int) : numR (l, 0) 0 = (0, ([], 1)) := by unfold numR; rw [if_neg (by omega)]; rfl
theorem takeR_wrong (s : Nat) : takeR ([], 1) s = ([], ([], 1)) := by unfold takeR; rw [if_pos (by decide)]
theorem numR_wrong (s : Int) : numR ([], 1) s = (0, ([], 1)) := by
  unfold numR
  split
  · rw [takeR_wrong]; rfl
  · rfl
theorem textR_wrong : textR ([], 1) = ([], ([], 1)) := by unfold textR; rw [takeR_wrong, takeR_wrong]
theorem strNone : (strOfNums []).toList.isEmpty = true := by decide +kernel
theorem endR_wrong : endR ([], 1) = 1 := by decide

set_option maxHeartbeats 1600000 in
theorem packStays_walk (n : Int) (a1 : Option Addr) (len1 cap1 : Nat) (l1 : List Int) (a2 : Option Addr) (len2 cap2 : Nat) (l2 : List Int) (w : World) (n0 : 0 ≤ n) (n1 : n ≤ 18446744073709551615) (hao : a1 = none → cap1 = 0) (hb : Bs w a1 len1 l1) (hs : Ns w a2 len2 l2) :
    Calls Try.prog 7 #[.int .u64 n, .slice a1 len1 cap1, .slice a2 len2 cap2] w fun e w' => e = .returned (.bool true) ∧ Below w.heap.size w w' := by
  by_cases hl1 : 5000 < len1
  · clear hao hb hs
    go_enter Try.func7, Try.ntmps7
    go_wp2_with (go_at_call 9; refine (awake_any _).mono ?_; rintro e w1 ⟨rfl, hbel⟩)
    go_ret
    exact ⟨rfl, hbel⟩
  by_cases hl2 : 100 < len2
  · clear hao hb hs
    go_enter Try.func7, Try.ntmps7
    go_wp2_with (go_at_call 9; refine (awake_any _).mono ?_; rintro e w1 ⟨rfl, hbel⟩)
    go_ret
    exact ⟨rfl, hbel⟩
  have AO : Hid (a1 = none → cap1 = 0) := hao
  clear hao
  go_enter Try.func7, Try.ntmps7
  go_wp2_with fail
  refine (awake_any _).mono ?_
  rintro e w1 ⟨rfl, hbel⟩
  have hw1 := wr_new w1
  have hb1 : Below w1.heap.size w1 (w1.alloc (.cells #[.slice none 0 0, .int .i64 0] 46)) := (Below.refl _ _).alloc (Nat.le_refl _) _
  go_wp2_with fail
  refine (wnum_any w1.heap.size _ w1.heap.size _ n 9 hb1.size hw1 n0 n1 (by decide)).mono ?_
  rintro e w2 ⟨rfl, hw2, hb2⟩
  rw [numW_nine] at hw2
  have hbb2 := hb1.trans hb2
  go_wp2_with fail
  refine (wnum_any w1.heap.size _ w1.heap.size _ 1 1 hbb2.size hw2 (by decide) (by decide) (by decide)).mono ?_
  rintro e w3 ⟨rfl, hw3, hb3⟩
  rw [numW_wrong] at hw3
  have hbb3 := hbb2.trans hb3
  go_wp2_with fail
  refine (wbytes_any w1.heap.size _ w1.heap.size _ hw3 (by decide)).mono ?_
  rintro e w4 ⟨hb4, v, rfl, ho4⟩
  obtain ⟨a4, c4, rfl, _⟩ := owns_bs ho4 (by simp)
  have hbb4 := (hbel.trans (hbb3.mono hbel.size)).trans (hb4.mono (Nat.le_trans hbel.size hbb3.size))
  clear hw1 hb1 hw2 hb2 hbb2 hw3 hb3 hbb3 hb4 ho4 hbel
  have hb5 := hb.below hbb4
  go_wp2_with fail
  refine (read_any a1 len1 cap1 l1 _ AO.out (by omega) hb5).mono ?_
  rintro e w5 ⟨rb, rfl, hr5, hrb, hb6⟩
  go_wp2_with fail
  refine (rnum_any _ rb _ 0 hr5).mono ?_
  rintro e w6 ⟨rfl, hr6, hg6⟩
  rw [numR_none] at hr6
  rw [numR_none]
  have hB : w.heap.size ≤ rb := Nat.le_trans hbb4.size hrb
  have hbb5 := hbb4.trans (hb6.mono hbb4.size)
  have hbb6 := hbb5.trans (below_grown hg6 hbb5.size hB)
  clear hb5 hb6 hr5 hg6 hb
  go_wp2
  go_loopw [13] (fun i wr => ∃ k : Nat, k ≤ len2 ∧ i = .int .i64 k ∧ Rd wr rb ([], 1) ∧ Below w.heap.size w wr) (fun i _ => len2 - (intOf i).toNat)
  case atStart => exact ⟨0, Nat.zero_le _, rfl, hr6, hbb6⟩
  case round =>
    obtain ⟨k, hk, rfl, hr, hbr⟩ := hrel
    by_cases hlt : k < len2
    · obtain ⟨b, off, rfl, hc⟩ := (hs.below hbr).2 (by omega)
      have hck := hc k hlt
      clear hc hr6 hbb6 hbb5 hbb4
      generalize l2.getD k 0 = x at *
      have hi1 : (k : Int) < (len2 : Int) := by omega
      have hz := strNone
      go_wp2_with (first | (go_at_call 17; refine (rnum_any _ rb _ x hr).mono ?_; rintro e w7 ⟨rfl, hr7, hg7⟩; rw [numR_wrong] at hr7; rw [numR_wrong]) | (go_at_call 15; refine (rtext_any _ rb _ hr7).mono ?_; rintro e w8 ⟨rfl, hr8, hg8⟩; rw [textR_wrong] at hr8; rw [textR_wrong]))
      go_roundw
      case rel =>
        have h7 := hbr.trans (below_grown hg7 hbr.size hB)
        exact ⟨k + 1, by omega, by go_num, hr8, h7.trans (below_grown hg8 h7.size hB)⟩
      case measure => simp [intOf]; omega
    · go_wp2_with (go_at_call 19; refine (rend_any _ rb _ hr).mono ?_; rintro e w' ⟨rfl, rfl⟩; rw [endR_wrong])
      go_ret
      exact ⟨rfl, hbr⟩

end Go.Proofs.Ytbieemiogbkaiaa
