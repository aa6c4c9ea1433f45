/-
  The document's answer: how far words go, where blanks end, what numbers are worth; words.
-/
import Derived.Test.YtdjjlccpmfhkiaaDoorFirst
namespace Go.Proofs.YtdjjlccpmfhkiaaDoor
open Go.RowKit

theorem idx (s : ByteArray) (p : Nat) (h : p < s.size) : ((lst s).drop p)[0]? = some (s[p]'h) := by
  rw [List.getElem?_drop, Nat.add_zero, lst_at s p h]

theorem byte_at (s : ByteArray) (p : Nat) (h : p < s.size) : s.data[p]'h = s[p]'h := rfl

set_option maxHeartbeats 800000 in
theorem run_any (s : ByteArray) (p : Nat) (w : World) (hs : s.size ≤ 100000000) (hp : p ≤ s.size) :
    Calls Tryd.prog 53 #[.string s, .int .i64 p] w fun e w' => e = .returned (.int .i64 (((lst s).drop p).takeWhile ofW).length) ∧ w' = w := by
  go_enter Tryd.func53, Tryd.ntmps53
  go_wp2
  go_loop [5] (fun i => ∃ k : Nat, i = .int .i64 k ∧ p + k ≤ s.size ∧ Run ofW ((lst s).drop p) k) (fun i => s.size - (intOf i).toNat)
  case atStart => exact ⟨0, rfl, hp, Nat.zero_le _, fun i c h => by omega⟩
  case round =>
    obtain ⟨k, rfl, hk, hr⟩ := hrel
    have HR : Hid (Run ofW ((lst s).drop p) k) := hr
    clear hr
    by_cases hlt : p + k < s.size
    · have hc : ((lst s).drop p)[k]? = some (s[p + k]'hlt) := by rw [List.getElem?_drop, lst_at s _ hlt]
      have HC : Hid (((lst s).drop p)[k]? = some (s[p + k]'hlt)) := hc
      clear hc
      rcases Bool.eq_false_or_eq_true (wN (s[p + k]'hlt).toNat) with hq | hq
      · go_wp2_with (go_at_call 61; refine (goes_any _ _).mono ?_; rintro e w1 ⟨rfl, rfl⟩; rw [hq])
        go_round
        case rel =>
          refine ⟨k + 1, by go_num, by omega, ?_⟩
          refine ⟨by rw [List.length_drop, lst_length]; omega, fun i c hi hc => ?_⟩
          rcases Nat.lt_or_ge i k with h | h
          · exact HR.out.2 i c h hc
          · obtain rfl : i = k := by omega
            rw [HC.out] at hc
            cases hc
            exact hq
        case measure => simp [intOf]; omega
      · go_wp2_with (go_at_call 61; refine (goes_any _ _).mono ?_; rintro e w1 ⟨rfl, rfl⟩; rw [hq])
        go_ret
        refine ⟨ret_int ?_, rfl⟩
        rw [take_while_eq ofW _ k HR.out.1 HR.out.2 (fun c hc => by rw [HC.out] at hc; cases hc; exact hq)]
    · have hge : ¬ (p : Int) + k < s.size := by omega
      go_wp2
      go_ret
      refine ⟨ret_int ?_, rfl⟩
      rw [take_while_eq ofW _ k HR.out.1 HR.out.2 (fun c hc => by have := (List.getElem?_eq_some_iff.1 hc).1; rw [List.length_drop, lst_length] at this; omega)]

theorem ibd (n m : Nat) : ((n : Int) == (m : Int)) = (true && decide (n = m)) := by
  rw [Bool.true_and, Bool.eq_iff_iff]
  simp
  omega

/-- is a text a word? -/
def isWd (l : (List UInt8)) : Bool :=
  match l with
  | [] => false
  | c :: r => loN c.toNat && decide (((c :: r).takeWhile ofW).length = (c :: r).length)

theorem isWd_at (s : ByteArray) (h : 0 < s.size) : isWd (lst s) = (loN (s[0]'h).toNat && decide (((lst s).takeWhile ofW).length = s.size)) := by
  have hc := drop_cons s 0 h
  rw [List.drop_zero] at hc
  rw [← lst_length s]
  rw [hc]
  rfl

set_option maxHeartbeats 800000 in
theorem is_any (s : ByteArray) (w : World) :
    Calls Tryd.prog 14 #[.string s] w fun e w' => e = .returned (.bool (isWd (lst s))) ∧ Below w.heap.size w w' := by
  by_cases h0 : 0 < s.size
  · have hemp : s.toList.isEmpty = false := by
      rw [show s.toList = lst s from ByteArray.toList_eq s]
      cases h : lst s with
      | nil => have := lst_length s; rw [h] at this; simp at this; omega
      | cons c r => rfl
    have HI : Hid (isWd (lst s) = (loN (s[0]'h0).toNat && decide (((lst s).takeWhile ofW).length = s.size))) := isWd_at s h0
    have HQ : Hid (∀ W, Calls Tryd.prog 25 #[.string s, .func (.func 29) #[] #[]] W fun e w' => e = .returned (.int .i64 ((lst s).takeWhile ofW).length) ∧ Below W.heap.size W w') := sizeW_any s
    generalize ((lst s).takeWhile ofW).length = L at *
    have hb : (s[0]'h0).toNat < 256 := (s[0]'h0).toNat_lt
    rcases Bool.eq_false_or_eq_true (loN (s[0]'h0).toNat) with hl | hl
    · go_enter Tryd.func14, Tryd.ntmps14
      go_wp2_with (first | (go_at_call 28; refine (lo_any _ _).mono ?_; rintro e w1 ⟨rfl, rfl⟩; rw [hl]) | (go_at_call 25; refine (HQ.out _).mono ?_; rintro e w1 ⟨rfl, b1⟩))
      go_ret
      refine ⟨ret_bool ?_, b1⟩
      rw [HI.out, hl]
      exact ibd L s.size
    · go_enter Tryd.func14, Tryd.ntmps14
      go_wp2_with (first | (go_at_call 28; refine (lo_any _ _).mono ?_; rintro e w1 ⟨rfl, rfl⟩; rw [hl]) | (go_at_call 25; refine (HQ.out _).mono ?_; rintro e w1 ⟨rfl, b1⟩))
      go_ret
      refine ⟨ret_bool ?_, Below.refl _ _⟩
      rw [HI.out, hl]
      rfl
  · have e : s = ⟨#[]⟩ := ByteArray.ext (Array.eq_empty_of_size_eq_zero (by show s.data.size = 0; have : s.size = s.data.size := rfl; omega))
    subst e
    go_enter Tryd.func14, Tryd.ntmps14
    go_wp2
    go_ret
    exact ⟨rfl, Below.refl _ _⟩

end Go.Proofs.YtdjjlccpmfhkiaaDoor
