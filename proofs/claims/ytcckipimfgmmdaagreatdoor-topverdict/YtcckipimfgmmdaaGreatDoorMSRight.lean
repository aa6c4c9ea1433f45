/-
  What may be shown: acts, words, conditions, rules.
-/
import Derived.Test.YtcckipimfgmmdaaGreatDoorMSBase
namespace Go.Proofs.YtcckipimfgmmdaaGreatDoor.M
open Go.RowKit

/-- is a text a word? -/
def isWd (l : (List UInt8)) : Bool :=
  match l with
  | [] => false
  | c :: r => loN c.toNat && decide (((c :: r).takeWhile ofW).length = (c :: r).length)

theorem isWd_at (s : ByteArray) (h : 0 < s.size) : isWd (lst s) = (loN (s[0]'h).toNat && decide (((lst s).takeWhile ofW).length = s.size)) := by
  have hc := drop_cons s 0 h
  rw [List.drop_zero] at hc
  rw [← lst_length s]
  rw [hc]
  rfl

theorem ibd' (a b : Nat) : ((a : Int) == (b : Int)) = decide (a = b) := by
  rw [Bool.eq_iff_iff]
  simp
  omega

set_option maxHeartbeats 800000 in
theorem is_any (s : ByteArray) (w : World) :
    Calls Tryz.prog 100 #[.string s] w fun e w' => e = .returned (.bool (isWd (lst s))) ∧ Below w.heap.size w w' := by
  by_cases h0 : 0 < s.size
  · have hemp : s.toList.isEmpty = false := by
      rw [show s.toList = lst s from ByteArray.toList_eq s]
      cases h : lst s with
      | nil => have := lst_length s; rw [h] at this; simp at this; omega
      | cons c r => rfl
    have HI : Hid (isWd (lst s) = (loN (s[0]'h0).toNat && decide (((lst s).takeWhile ofW).length = s.size))) := isWd_at s h0
    have HQ : Hid (∀ W, Calls Tryz.prog 41 #[.string s, .func (.func 71) #[] #[]] W fun e w' => e = .returned (.int .i64 ((lst s).takeWhile ofW).length) ∧ Below W.heap.size W w') := sizeW_any s
    generalize ((lst s).takeWhile ofW).length = L at *
    have hb : (s[0]'h0).toNat < 256 := (s[0]'h0).toNat_lt
    rcases Bool.eq_false_or_eq_true (loN (s[0]'h0).toNat) with hl | hl
    · go_enter Tryz.func100, Tryz.ntmps100
      go_wp2_with (first | (go_at_call 69; refine (lo_any _ _).mono ?_; rintro e w1 ⟨rfl, rfl⟩; rw [hl]) | (go_at_call 41; refine (HQ.out _).mono ?_; rintro e w1 ⟨rfl, b1⟩))
      go_ret
      refine ⟨ret_bool ?_, b1⟩
      rw [HI.out, hl]
      exact ibd' L s.size
    · go_enter Tryz.func100, Tryz.ntmps100
      go_wp2_with (first | (go_at_call 69; refine (lo_any _ _).mono ?_; rintro e w1 ⟨rfl, rfl⟩; rw [hl]) | (go_at_call 41; refine (HQ.out _).mono ?_; rintro e w1 ⟨rfl, b1⟩))
      go_ret
      refine ⟨ret_bool ?_, Below.refl _ _⟩
      rw [HI.out, hl]
      rfl
  · have e : s = ⟨#[]⟩ := ByteArray.ext (Array.eq_empty_of_size_eq_zero (by show s.data.size = 0; have : s.size = s.data.size := rfl; omega))
    subst e
    go_enter Tryz.func100, Tryz.ntmps100
    go_wp2
    go_ret
    exact ⟨rfl, Below.refl _ _⟩

/-- has an act of this kind a number? -/
def hasN (k : Int) : Bool := k == 3 || k == 4 || k == 6

theorem hasArg_any (k : Int) (w : World) : Calls Tryz.prog 56 #[.int .i64 k] w fun e w' => e = .returned (.bool (hasN k)) ∧ w' = w := by
  unfold hasN
  rcases Bool.eq_false_or_eq_true (k == 3) with h1 | h1
  · go_enter Tryz.func56, Tryz.ntmps56
    go_wp2
    go_ret
    exact ⟨ret_bool (by rw [h1]; rfl), rfl⟩
  · rcases Bool.eq_false_or_eq_true (k == 4) with h2 | h2
    · go_enter Tryz.func56, Tryz.ntmps56
      go_wp2
      go_ret
      exact ⟨ret_bool (by rw [h1, h2]; rfl), rfl⟩
    · go_enter Tryz.func56, Tryz.ntmps56
      go_wp2
      go_ret
      exact ⟨ret_bool (by rw [h1, h2]; rfl), rfl⟩

/-- may an act be? -/
def actB (k a : Int) : Bool := decide (1 ≤ k) && decide (k ≤ 8) && (if hasN k then decide (0 ≤ a) && decide (a ≤ 65535) else a == 0)

theorem actB_mk {k a : Int} (h1 : 1 ≤ k) (h2 : k ≤ 8) : actB k a = (if hasN k then decide (0 ≤ a) && decide (a ≤ 65535) else a == 0) := by
  unfold actB
  rw [decide_eq_true h1, decide_eq_true h2]
  rfl
theorem actB_no {k a : Int} (h : k < 1 ∨ 8 < k) : actB k a = false := by
  unfold actB
  rcases h with h | h
  · rw [decide_eq_false (by omega : ¬ 1 ≤ k)]; rfl
  · rw [decide_eq_false (by omega : ¬ k ≤ 8)]; simp

theorem actR_any (k a : Int) (w : World) : Calls Tryz.prog 27 #[.agg #[.int .i64 k, .int .i64 a]] w fun e w' => e = .returned (.bool (actB k a)) ∧ Below w.heap.size w w' := by
  have be : Below w.heap.size w (w.alloc (Obj.cells #[.int .i64 k, .int .i64 a] 36)) := (Below.refl _ _).alloc (Nat.le_refl _) _
  by_cases h1 : k < 1
  · have HE : Hid (actB k a = false) := actB_no (.inl h1)
    have hd : decide (k < 1) = true := decide_eq_true h1
    go_enter Tryz.func27, Tryz.ntmps27
    go_wp2
    go_ret
    exact ⟨ret_bool HE.out.symm, be⟩
  · have hd : decide (k < 1) = false := decide_eq_false h1
    by_cases h2 : 8 < k
    · have HE : Hid (actB k a = false) := actB_no (.inr h2)
      have hd2 : decide (8 < k) = true := decide_eq_true h2
      go_enter Tryz.func27, Tryz.ntmps27
      go_wp2
      go_ret
      exact ⟨ret_bool HE.out.symm, be⟩
    · have hd2 : decide (8 < k) = false := decide_eq_false h2
      have HE : Hid (actB k a = (if hasN k then decide (0 ≤ a) && decide (a ≤ 65535) else a == 0)) := actB_mk (by omega) (by omega)
      rcases Bool.eq_false_or_eq_true (hasN k) with h3 | h3
      · by_cases h4 : 0 ≤ a
        · have h5 : decide (0 ≤ a) = true := decide_eq_true h4
          go_enter Tryz.func27, Tryz.ntmps27
          go_wp2_with (go_at_call 56; refine (hasArg_any _ _).mono ?_; rintro e w1 ⟨rfl, rfl⟩; rw [h3])
          go_ret
          exact ⟨ret_bool (by rw [HE.out, h3, h5]; rfl), be⟩
        · have h5 : decide (0 ≤ a) = false := decide_eq_false h4
          go_enter Tryz.func27, Tryz.ntmps27
          go_wp2_with (go_at_call 56; refine (hasArg_any _ _).mono ?_; rintro e w1 ⟨rfl, rfl⟩; rw [h3])
          go_ret
          exact ⟨ret_bool (by rw [HE.out, h3, h5]; rfl), be⟩
      · go_enter Tryz.func27, Tryz.ntmps27
        go_wp2_with (go_at_call 56; refine (hasArg_any _ _).mono ?_; rintro e w1 ⟨rfl, rfl⟩; rw [h3])
        go_ret
        exact ⟨ret_bool (by rw [HE.out, h3]; rfl), be⟩

/-- may a condition be? -/
def condB (x : Xc) : Bool := decide (0 ≤ x.arg) && decide (x.arg < 6) && decide (1 ≤ x.op) && decide (x.op ≤ 6)

theorem condR_any (x : Xc) (w : World) : Calls Tryz.prog 102 #[.agg #[.int .i64 x.arg, .int .i64 x.op, .int .u64 x.mask, .int .u64 x.val]] w fun e w' => e = .returned (.bool (condB x)) ∧ Below w.heap.size w w' := by
  have be : Below w.heap.size w (w.alloc (Obj.cells #[.int .i64 x.arg, .int .i64 x.op, .int .u64 x.mask, .int .u64 x.val] 139)) := (Below.refl _ _).alloc (Nat.le_refl _) _
  obtain ⟨g, o, m, v⟩ := x
  unfold condB
  dsimp only at be ⊢
  rcases Bool.eq_false_or_eq_true (decide (0 ≤ g)) with h1 | h1
  · rcases Bool.eq_false_or_eq_true (decide (g < 6)) with h2 | h2
    · rcases Bool.eq_false_or_eq_true (decide (1 ≤ o)) with h3 | h3
      · go_enter Tryz.func102, Tryz.ntmps102
        go_wp2
        go_ret
        exact ⟨ret_bool (by rw [h1, h2, h3]; rfl), be⟩
      · go_enter Tryz.func102, Tryz.ntmps102
        go_wp2
        go_ret
        exact ⟨ret_bool (by rw [h1, h2, h3]; rfl), be⟩
    · go_enter Tryz.func102, Tryz.ntmps102
      go_wp2
      go_ret
      exact ⟨ret_bool (by rw [h1, h2]; rfl), be⟩
  · go_enter Tryz.func102, Tryz.ntmps102
    go_wp2
    go_ret
    exact ⟨ret_bool (by rw [h1]; rfl), be⟩

end Go.Proofs.YtcckipimfgmmdaaGreatDoor.M
