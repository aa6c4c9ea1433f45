/-
  CMath.
-/
import Derived.Test.YtmcgcbgblgmmkaaGreatDoorQ26
namespace Go.Proofs.YtmcgcbgblgmmkaaGreatDoor.C
open M (an heldB rightB)
open V (U64)
def opp (o : Int) : Int := if o = 1 then 2 else if o = 2 then 1 else if o = 3 then 6 else if o = 4 then 5 else if o = 5 then 4 else if o = 6 then 3 else 0
def hasF (o : Int) : Bool := o == 1 || o == 5 || o == 6
structure No where
 al : Bool
 ne : Bool
 no : Bool
 o : Int
 m : Int
 v : Int
def No.same (x y : No) : Bool := x.al == y.al && x.ne == y.ne && x.no == y.no && x.o == y.o && x.m == y.m && x.v == y.v
def always : No := ⟨true, false, false, 0, 0, 0⟩
def never : No := ⟨false, true, false, 0, 0, 0⟩
def outB (v m : Int) : Bool := !(bits BinOp.andNot IntKind.u64 v m == 0)
def formN (o m v : Int) : No :=
 if ((o == 1 && outB v m) || (o == 5 && decide (m <= v)) || (o == 6 && decide (m < v))) = true then never
 else if (o == 6 && v == 0) = true then always
 else ⟨false, false, false, o, m, v⟩
def turn (n : No) : No := if n.same always = true then never else if n.same never = true then always else ⟨n.al, n.ne, !n.no, n.o, n.m, n.v⟩
def normN (a o m v : Int) : No := if rightB a o = true then (if hasF o = true then formN o m v else turn (formN (opp o) m v)) else never
def isN (n : No) (x : Int) : Bool := if (n.al || n.ne) = true then n.al else !((hasF n.o && heldB n.o (an x n.m) n.v) == n.no)
theorem right_bd {a o : Int} (h : rightB a o = true) : 0 <= a /\ a < 6 /\ 1 <= o /\ o <= 6 := by
 simp only [rightB, Bool.and_eq_true, decide_eq_true_eq] at h
 omega
theorem six {o : Int} (h1 : 1 <= o) (h6 : o <= 6) : o = 1 \/ o = 2 \/ o = 3 \/ o = 4 \/ o = 5 \/ o = 6 := by omega
theorem held_opp {o : Int} (h1 : 1 <= o) (h6 : o <= 6) (x v : Int) : heldB (opp o) x v = !heldB o x v := by
 rcases six h1 h6 with rfl | rfl | rfl | rfl | rfl | rfl
 all_goals simp [heldB, opp]
 all_goals rw [Bool.eq_iff_iff]
 all_goals simp only [Bool.not_eq_true', decide_eq_true_eq, decide_eq_false_iff_not]
 all_goals omega
theorem nat_of {x : Int} (h : U64 x) : ∃ n : Nat, x = n /\ n < 18446744073709551616 := by
 obtain ⟨h0, h1⟩ := h
 obtain ⟨n, rfl⟩ := Int.eq_ofNat_of_zero_le h0
 exact ⟨n, rfl, by omega⟩
theorem an_nat (n m : Nat) (hn : n < 18446744073709551616) (hm : m < 18446744073709551616) : an n m = ((n &&& m : Nat) : Int) := u64_and_nat n m hn hm
theorem an_bd {x m : Int} (hx : U64 x) (hm : U64 m) : 0 <= an x m /\ an x m <= m := by
 obtain ⟨n, rfl, hn⟩ := nat_of hx
 obtain ⟨k, rfl, hk⟩ := nat_of hm
 rw [an_nat n k hn hk]
 have := @Nat.and_le_right n k
 omega
theorem andNot_or (v m : Nat) (hv : v < 18446744073709551616) (hm : m < 18446744073709551616) : v &&& (18446744073709551615 - m) = 0 ↔ v ||| m = m := by
 have hb : ∀ i, (18446744073709551615 - m).testBit i = (decide (i < 64) && !m.testBit i) := by
  intro i
  have := Nat.testBit_two_pow_sub_succ (x := m) (n := 64) (by omega) i
  rw [<- this]
  congr 1
  omega
 have hi : ∀ i, 64 <= i -> v.testBit i = false := fun i h => Nat.testBit_lt_two_pow (Nat.lt_of_lt_of_le (show v < 2 ^ 64 by omega) (Nat.pow_le_pow_right (by omega) h))
 constructor
 ·intro h
  apply Nat.eq_of_testBit_eq
  intro i
  have := congrArg (fun z => z.testBit i) h
  simp only [Nat.testBit_and, hb, Nat.zero_testBit] at this
  rw [Nat.testBit_or]
  by_cases h6 : i < 64
  ·simp only [h6, decide_true, Bool.true_and] at this
   cases hx : v.testBit i <;> cases hy : m.testBit i <;> simp_all
  ·rw [hi i (by omega), Bool.false_or]
 ·intro h
  apply Nat.eq_of_testBit_eq
  intro i
  have := congrArg (fun z => z.testBit i) h
  simp only [Nat.testBit_or] at this
  rw [Nat.testBit_and, hb, Nat.zero_testBit]
  by_cases h6 : i < 64
  ·simp only [h6, decide_true, Bool.true_and]
   cases hx : v.testBit i <;> cases hy : m.testBit i <;> simp_all
  ·rw [hi i (by omega), Bool.false_and]
theorem out_or {v m : Int} (hv : U64 v) (hm : U64 m) : (!(bits BinOp.or IntKind.u64 v m == m)) = outB v m := by
 obtain ⟨n, rfl, hn⟩ := nat_of hv
 obtain ⟨k, rfl, hk⟩ := nat_of hm
 unfold outB
 rw [u64_andNot_nat n k hn hk, u64_or_nat n k hn hk]
 congr 1
 rw [Bool.eq_iff_iff, beq_iff_eq, beq_iff_eq, show (0 : Int) = ((0 : Nat) : Int) from rfl, Int.ofNat_inj, Int.ofNat_inj]
 exact (andNot_or n k hn hk).symm
theorem out_ne {x v m : Int} (hx : U64 x) (hv : U64 v) (hm : U64 m) (h : outB v m = true) : (an x m == v) = false := by
 obtain ⟨l, rfl, hl⟩ := nat_of hx
 obtain ⟨n, rfl, hn⟩ := nat_of hv
 obtain ⟨k, rfl, hk⟩ := nat_of hm
 rw [<- out_or ⟨by omega, by omega⟩ ⟨by omega, by omega⟩, u64_or_nat n k hn hk] at h
 rw [an_nat l k hl hk, beq_eq_false_iff_ne]
 intro e
 have e' : l &&& k = n := by omega
 subst e'
 have : (l &&& k) ||| k = k := by
  apply Nat.eq_of_testBit_eq
  intro i
  rw [Nat.testBit_or, Nat.testBit_and]
  cases l.testBit i <;> cases k.testBit i <;> rfl
 rw [this] at h
 simp at h
theorem form_is {o m v x : Int} (ho : hasF o = true) (hx : U64 x) (hv : U64 v) (hm : U64 m) : isN (formN o m v) x = heldB o (an x m) v := by
 obtain ⟨a0, a1⟩ := an_bd hx hm
 have hvv := hv.1
 have hcase : o = 1 \/ o = 5 \/ o = 6 := by simpa [hasF, or_assoc] using ho
 rcases hcase with rfl | rfl | rfl
 ·by_cases h : outB v m = true
  ·have := out_ne hx hv hm h
   simp [formN, h, isN, never, heldB, this]
  ·simp [formN, h, isN, heldB, hasF]
 ·by_cases h : m <= v
  ·have : ¬ v < an x m := by omega
   simp [formN, h, isN, never, heldB]
   omega
  ·simp [formN, h, isN, heldB, hasF]
 ·by_cases h : m < v
  ·simp [formN, h, isN, never, heldB]
   omega
  ·by_cases h0 : v = 0
   ·subst h0
    simp [formN, h, isN, always, heldB]
    omega
   ·simp [formN, h, h0, isN, heldB, hasF]
theorem turn_is (n : No) (x : Int) (h : n = always \/ n = never \/ (n.al = false /\ n.ne = false)) : isN (turn n) x = !isN n x := by
 rcases h with rfl | rfl | ⟨h1, h2⟩
 ·rfl
 ·rfl
 ·have e1 : n.same always = false := by simp [No.same, always, h1]
  have e2 : n.same never = false := by simp [No.same, never, h2]
  unfold turn
  rw [e1, e2]
  simp only [Bool.false_eq_true, if_false, isN, h1, h2, Bool.or_self]
  cases (hasF n.o && heldB n.o (an x n.m) n.v) <;> cases n.no <;> rfl
theorem form_kinds (o m v : Int) : formN o m v = always \/ formN o m v = never \/ ((formN o m v).al = false /\ (formN o m v).ne = false) := by
 unfold formN
 split
 ·exact .inr (.inl rfl)
 ·split
  ·exact .inl rfl
  ·exact .inr (.inr ⟨rfl, rfl⟩)
theorem opp_has {o : Int} (h1 : 1 <= o) (h6 : o <= 6) (h : hasF o = false) : hasF (opp o) = true := by
 rcases six h1 h6 with rfl | rfl | rfl | rfl | rfl | rfl <;> simp_all [hasF, opp]
theorem norm_is {a o m v x : Int} (hr : rightB a o = true) (hx : U64 x) (hv : U64 v) (hm : U64 m) : isN (normN a o m v) x = heldB o (an x m) v := by
 obtain ⟨_, _, h3, h4⟩ := right_bd hr
 unfold normN
 rw [if_pos hr]
 by_cases ho : hasF o = true
 ·rw [if_pos ho]
  exact form_is ho hx hv hm
 ·rw [if_neg ho, turn_is _ _ (form_kinds _ _ _), form_is (opp_has h3 h4 (by simpa using ho)) hx hv hm, held_opp h3 h4, Bool.not_not]
end Go.Proofs.YtmcgcbgblgmmkaaGreatDoor.C
