/-
  Acts and their numbers, plainly.
-/
import Derived.Test.YtcckipimfgmmdaaGreatDoorRows
import Derived.Laws.BitsAllLaws
namespace Go.Proofs.YtcckipimfgmmdaaGreatDoor.A

/-- a number of 32 bits. -/
def U32 (x : Int) : Prop := 0 ≤ x ∧ x ≤ 4294967295

/-- has a kind an Arg? -/
def hasB (k : Int) : Bool := k == 3 || k == 4 || k == 6

/-- the numbers of the kinds, from 0 on. -/
def tblL : List Int := [0, 2147483648, 0, 196608, 327680, 2143289344, 2146435072, 2147221504, 2147418112]

/-- a kind's number. -/
def numK (k : Int) : Int := tblL.getD k.toNat 0

/-- the kind of a number without its last bits. -/
def kiH (n : Int) : Int :=
  if n = 2147483648 then 1 else if n = 0 then 2 else if n = 196608 then 3 else if n = 327680 then 4
  else if n = 2143289344 then 5 else if n = 2146435072 then 6 else if n = 2147221504 then 7 else if n = 2147418112 then 8 else 1

/-- a number without its last 16 bits. -/
def top (v : Int) : Int := v / 65536 * 65536

/-- the kind and the Arg of what a filter answered. -/
def ki (v : Int) : Int := kiH (top v)
def ar (v : Int) : Int := if hasB (ki v) = true then v % 65536 else 0

/-- may an act be? -/
def rightB (k a : Int) : Bool := decide (1 ≤ k) && decide (k ≤ 8) && (a == 0 || hasB k && decide (0 ≤ a) && decide (a ≤ 65535))

/-- how a filter answers an act. -/
def valZ (k a : Int) : Int := if rightB k a = true then numK k + a else 0
def errZ (k a : Int) : Int := if rightB k a = true then 0 else 1

theorem kiH_bd (n : Int) : 1 ≤ kiH n ∧ kiH n ≤ 8 := by
  unfold kiH
  repeat' split
  all_goals omega
theorem ki_bd (v : Int) : 1 ≤ ki v ∧ ki v ≤ 8 := kiH_bd _

/-- what a search has found when it has come to a kind. -/
theorem kiH_found (n : Int) (k : Nat) (h1 : 1 ≤ k) (h8 : k ≤ 8) (hno : ∀ j, 1 ≤ j → j < k → tblL.getD j 0 ≠ n) (h : tblL.getD k 0 = n) : kiH n = k := by
  have q1 := hno 1
  have q2 := hno 2
  have q3 := hno 3
  have q4 := hno 4
  have q5 := hno 5
  have q6 := hno 6
  have q7 := hno 7
  clear hno
  simp only [tblL, List.getD_cons_succ, List.getD_cons_zero] at q1 q2 q3 q4 q5 q6 q7
  obtain rfl | rfl | rfl | rfl | rfl | rfl | rfl | rfl : k = 1 ∨ k = 2 ∨ k = 3 ∨ k = 4 ∨ k = 5 ∨ k = 6 ∨ k = 7 ∨ k = 8 := by omega
  all_goals (simp only [tblL, List.getD_cons_succ, List.getD_cons_zero] at h; subst h; rfl)

theorem kiH_none (n : Int) (hno : ∀ j, 1 ≤ j → j < 9 → tblL.getD j 0 ≠ n) : kiH n = 1 := by
  have q1 := hno 1 (by omega) (by omega)
  have q2 := hno 2 (by omega) (by omega)
  have q3 := hno 3 (by omega) (by omega)
  have q4 := hno 4 (by omega) (by omega)
  have q5 := hno 5 (by omega) (by omega)
  have q6 := hno 6 (by omega) (by omega)
  have q7 := hno 7 (by omega) (by omega)
  have q8 := hno 8 (by omega) (by omega)
  simp only [tblL, List.getD_cons_succ, List.getD_cons_zero] at q1 q2 q3 q4 q5 q6 q7 q8
  unfold kiH
  rw [if_neg (fun e => q1 e.symm), if_neg (fun e => q2 e.symm), if_neg (fun e => q3 e.symm), if_neg (fun e => q4 e.symm), if_neg (fun e => q5 e.symm), if_neg (fun e => q6 e.symm), if_neg (fun e => q7 e.symm), if_neg (fun e => q8 e.symm)]

theorem right_bd {k a : Int} (h : rightB k a = true) : 1 ≤ k ∧ k ≤ 8 ∧ 0 ≤ a ∧ a ≤ 65535 ∧ (hasB k = false → a = 0) := by
  unfold rightB at h
  simp only [Bool.and_eq_true, Bool.or_eq_true, decide_eq_true_eq, beq_iff_eq] at h
  obtain ⟨⟨h1, h2⟩, h3⟩ := h
  rcases h3 with h3 | ⟨⟨h3, h4⟩, h5⟩
  · exact ⟨h1, h2, by omega, by omega, fun _ => h3⟩
  · exact ⟨h1, h2, h4, h5, fun e => by rw [e] at h3; cases h3⟩

theorem eight {k : Int} (h1 : 1 ≤ k) (h8 : k ≤ 8) : k = 1 ∨ k = 2 ∨ k = 3 ∨ k = 4 ∨ k = 5 ∨ k = 6 ∨ k = 7 ∨ k = 8 := by omega

theorem numK_top {k : Int} (h1 : 1 ≤ k) (h8 : k ≤ 8) : 0 ≤ numK k ∧ numK k ≤ 2147483648 ∧ numK k % 65536 = 0 ∧ kiH (numK k) = k := by
  rcases eight h1 h8 with rfl | rfl | rfl | rfl | rfl | rfl | rfl | rfl <;> decide

/-- the number of an act is read as the act. -/
theorem back {k a : Int} (h : rightB k a = true) : ki (valZ k a) = k ∧ ar (valZ k a) = a ∧ U32 (valZ k a) := by
  obtain ⟨h1, h8, a0, a1, hz⟩ := right_bd h
  obtain ⟨n0, n1, n2, n3⟩ := numK_top h1 h8
  have ev : valZ k a = numK k + a := by unfold valZ; rw [if_pos h]
  have et : top (valZ k a) = numK k := by rw [ev]; unfold top; omega
  have ek : ki (valZ k a) = k := by unfold ki; rw [et]; exact n3
  refine ⟨ek, ?_, by rw [ev]; unfold U32; omega⟩
  unfold ar
  rw [ek, ev]
  by_cases hh : hasB k = true
  · rw [if_pos hh]; omega
  · rw [if_neg hh]
    exact (hz (by simpa using hh)).symm

/-- whatever a filter answers is an act that may be. -/
theorem right_of (v : Int) : rightB (ki v) (ar v) = true := by
  obtain ⟨h1, h8⟩ := ki_bd v
  unfold rightB ar
  by_cases hh : hasB (ki v) = true
  · rw [if_pos hh, hh]
    have a0 : 0 ≤ v % 65536 := by omega
    have a1 : v % 65536 ≤ 65535 := by omega
    simp [h1, h8, a0, a1]
  · rw [if_neg hh]
    simp [h1, h8]

theorem low_bits (v : Int) (h : U32 v) : bits BinOp.and IntKind.u32 v 65535 = v % 65536 := by
  obtain ⟨h0, h1⟩ := h
  obtain ⟨n, rfl⟩ := Int.eq_ofNat_of_zero_le h0
  have := u32_and_nat n 65535 (by omega) (by decide)
  rw [nat_mask16] at this
  rw [show (65535 : Int) = ((65535 : Nat) : Int) from rfl, this]
  omega

theorem top_bits (v : Int) (h : U32 v) : bits BinOp.andNot IntKind.u32 v 65535 = top v := by
  obtain ⟨h0, h1⟩ := h
  obtain ⟨n, rfl⟩ := Int.eq_ofNat_of_zero_le h0
  have := u32_andNot_nat n 65535 (by omega) (by decide)
  rw [show (65535 : Int) = ((65535 : Nat) : Int) from rfl, this]
  have e : n &&& (4294967295 - 65535) = n / 65536 * 65536 := by
    apply Nat.eq_of_testBit_eq
    intro i
    have e1 : (4294967295 - 65535 : Nat) = (2 ^ 16 - 1) <<< 16 := by decide
    rw [e1, show n / 65536 * 65536 = (n >>> 16) <<< 16 by rw [Nat.shiftRight_eq_div_pow, Nat.shiftLeft_eq]]
    rw [Nat.testBit_and, Nat.testBit_shiftLeft, Nat.testBit_shiftLeft, Nat.testBit_shiftRight, Nat.testBit_two_pow_sub_one]
    by_cases hi : 16 ≤ i
    · rw [show 16 + (i - 16) = i by omega]
      by_cases hj : i - 16 < 16
      · simp [hi, hj]
      · have : n.testBit i = false := Nat.testBit_lt_two_pow (Nat.lt_of_lt_of_le (show n < 2 ^ 32 by omega) (Nat.pow_le_pow_right (by omega) (by omega)))
        simp [this]
    · simp [hi]
  rw [e]
  unfold top
  omega

theorem or_bits (x a : Int) (h0 : 0 ≤ x) (h1 : x ≤ 2147483648) (h2 : x % 65536 = 0) (a0 : 0 ≤ a) (a1 : a ≤ 65535) : bits BinOp.or IntKind.u32 x a = x + a := by
  obtain ⟨n, rfl⟩ := Int.eq_ofNat_of_zero_le h0
  obtain ⟨m, rfl⟩ := Int.eq_ofNat_of_zero_le a0
  rw [u32_or_nat n m (by omega) (by omega)]
  obtain ⟨q, rfl⟩ : ∃ q, n = q * 2 ^ 16 := ⟨n / 65536, by omega⟩
  rw [← Nat.shiftLeft_eq, ← Nat.shiftLeft_add_eq_or_of_lt (by omega), Nat.shiftLeft_eq]
  omega

end Go.Proofs.YtcckipimfgmmdaaGreatDoor.A
