/-
  Conditions and their forms, plainly: a form holds where its condition does, the one that is turned about where it does not.
-/
import Derived.Test.YtcckipimfgmmdaaGreatDoorRows
import Derived.Laws.BitsAllLaws
namespace Go.Proofs.YtcckipimfgmmdaaGreatDoor.C

/-- numbers of 32 bits, and of 64. -/
def U32 (x : Int) : Prop := 0 ≤ x ∧ x ≤ 4294967295
def U64 (x : Int) : Prop := 0 ≤ x ∧ x ≤ 18446744073709551615

/-- may a condition be? -/
def rightB (a o : Int) : Bool := decide (0 ≤ a) && decide (a < 6) && decide (1 ≤ o) && decide (o ≤ 6)

/-- are a value and another one as an op says? -/
def heldB (o x v : Int) : Bool :=
  if (o == 1) = true then x == v else if (o == 2) = true then !(x == v) else if (o == 3) = true then decide (x < v) else if (o == 4) = true then decide (x ≤ v) else if (o == 5) = true then decide (v < x) else o == 6 && decide (v ≤ x)

/-- a number's bits of a mask. -/
def an (x m : Int) : Int := bits BinOp.and IntKind.u64 x m

/-- the op that holds where another one does not. -/
def opp (o : Int) : Int := if o = 1 then 2 else if o = 2 then 1 else if o = 3 then 6 else if o = 4 then 5 else if o = 5 then 4 else if o = 6 then 3 else 0

/-- does an op stand in forms? -/
def hasF (o : Int) : Bool := o == 1 || o == 5 || o == 6

/-- a condition in one form. -/
structure No where
  al : Bool
  ne : Bool
  no : Bool
  o : Int
  m : Int
  v : Int

def No.same (x y : No) : Bool := x.al == y.al && x.ne == y.ne && x.no == y.no && x.o == y.o && x.m == y.m && x.v == y.v

theorem No.same_iff (x y : No) : x.same y = true ↔ x = y := by
  obtain ⟨a, b, c, d, e, f⟩ := x
  obtain ⟨a', b', c', d', e', f'⟩ := y
  simp [No.same, and_assoc]
theorem No.same_self (x : No) : x.same x = true := (No.same_iff x x).2 rfl

def always : No := ⟨true, false, false, 0, 0, 0⟩
def never : No := ⟨false, true, false, 0, 0, 0⟩

/-- has a number a bit that a mask has not? -/
def outB (v m : Int) : Bool := !(bits BinOp.andNot IntKind.u64 v m == 0)

/-- the form of a condition whose op stands in forms. -/
def formN (o m v : Int) : No :=
  if ((o == 1 && outB v m) || (o == 5 && decide (m ≤ v)) || (o == 6 && decide (m < v))) = true then never
  else if (o == 6 && v == 0) = true then always
  else ⟨false, false, false, o, m, v⟩

/-- a form that is turned about. -/
def turn (n : No) : No := if n.same always = true then never else if n.same never = true then always else ⟨n.al, n.ne, !n.no, n.o, n.m, n.v⟩

/-- a condition's form. -/
def normN (a o m v : Int) : No := if rightB a o = true then (if hasF o = true then formN o m v else turn (formN (opp o) m v)) else never

/-- does a form hold of a number? -/
def isN (n : No) (x : Int) : Bool := if (n.al || n.ne) = true then n.al else !((hasF n.o && heldB n.o (an x n.m) n.v) == n.no)

/-- does a condition hold of a number? -/
def holdN (a o m v x : Int) : Bool := rightB a o && heldB o (an x m) v

/-- what Not tells. -/
def notE (a o : Int) : Int := if rightB a o = true then 0 else 1

theorem right_bd {a o : Int} (h : rightB a o = true) : 0 ≤ a ∧ a < 6 ∧ 1 ≤ o ∧ o ≤ 6 := by
  simp only [rightB, Bool.and_eq_true, decide_eq_true_eq] at h
  omega

theorem six {o : Int} (h1 : 1 ≤ o) (h6 : o ≤ 6) : o = 1 ∨ o = 2 ∨ o = 3 ∨ o = 4 ∨ o = 5 ∨ o = 6 := by omega

theorem opp_bd {o : Int} (h1 : 1 ≤ o) (h6 : o ≤ 6) : 1 ≤ opp o ∧ opp o ≤ 6 := by
  rcases six h1 h6 with rfl | rfl | rfl | rfl | rfl | rfl <;> decide

theorem opp_opp {o : Int} (h1 : 1 ≤ o) (h6 : o ≤ 6) : opp (opp o) = o := by
  rcases six h1 h6 with rfl | rfl | rfl | rfl | rfl | rfl <;> decide

theorem right_opp {a o : Int} (h : rightB a o = true) : rightB a (opp o) = true := by
  obtain ⟨h1, h2, h3, h4⟩ := right_bd h
  obtain ⟨h5, h6⟩ := opp_bd h3 h4
  simp [rightB, h1, h2, h5, h6]

theorem held_opp {o : Int} (h1 : 1 ≤ o) (h6 : o ≤ 6) (x v : Int) : heldB (opp o) x v = !heldB o x v := by
  rcases six h1 h6 with rfl | rfl | rfl | rfl | rfl | rfl
  all_goals simp [heldB, opp]
  all_goals rw [Bool.eq_iff_iff]
  all_goals simp only [Bool.not_eq_true', decide_eq_true_eq, decide_eq_false_iff_not]
  all_goals omega

theorem nat_of {x : Int} (h : U64 x) : ∃ n : Nat, x = n ∧ n < 18446744073709551616 := by
  obtain ⟨h0, h1⟩ := h
  obtain ⟨n, rfl⟩ := Int.eq_ofNat_of_zero_le h0
  exact ⟨n, rfl, by omega⟩

theorem an_nat (n m : Nat) (hn : n < 18446744073709551616) (hm : m < 18446744073709551616) : an n m = ((n &&& m : Nat) : Int) := u64_and_nat n m hn hm

theorem an_bd {x m : Int} (hx : U64 x) (hm : U64 m) : 0 ≤ an x m ∧ an x m ≤ m := by
  obtain ⟨n, rfl, hn⟩ := nat_of hx
  obtain ⟨k, rfl, hk⟩ := nat_of hm
  rw [an_nat n k hn hk]
  have := @Nat.and_le_right n k
  omega

theorem andNot_or (v m : Nat) (hv : v < 18446744073709551616) (hm : m < 18446744073709551616) : v &&& (18446744073709551615 - m) = 0 ↔ v ||| m = m := by
  have hb : ∀ i, (18446744073709551615 - m).testBit i = (decide (i < 64) && !m.testBit i) := by
    intro i
    have := Nat.testBit_two_pow_sub_succ (x := m) (n := 64) (by omega) i
    rw [← this]
    congr 1
    omega
  have hi : ∀ i, 64 ≤ i → v.testBit i = false := fun i h => Nat.testBit_lt_two_pow (Nat.lt_of_lt_of_le (show v < 2 ^ 64 by omega) (Nat.pow_le_pow_right (by omega) h))
  constructor
  · intro h
    apply Nat.eq_of_testBit_eq
    intro i
    have := congrArg (fun z => z.testBit i) h
    simp only [Nat.testBit_and, hb, Nat.zero_testBit] at this
    rw [Nat.testBit_or]
    by_cases h6 : i < 64
    · simp only [h6, decide_true, Bool.true_and] at this
      cases hx : v.testBit i <;> cases hy : m.testBit i <;> simp_all
    · rw [hi i (by omega), Bool.false_or]
  · intro h
    apply Nat.eq_of_testBit_eq
    intro i
    have := congrArg (fun z => z.testBit i) h
    simp only [Nat.testBit_or] at this
    rw [Nat.testBit_and, hb, Nat.zero_testBit]
    by_cases h6 : i < 64
    · simp only [h6, decide_true, Bool.true_and]
      cases hx : v.testBit i <;> cases hy : m.testBit i <;> simp_all
    · rw [hi i (by omega), Bool.false_and]

/-- the document's way to ask for a bit that a mask has not. -/
theorem out_or {v m : Int} (hv : U64 v) (hm : U64 m) : (!(bits BinOp.or IntKind.u64 v m == m)) = outB v m := by
  obtain ⟨n, rfl, hn⟩ := nat_of hv
  obtain ⟨k, rfl, hk⟩ := nat_of hm
  unfold outB
  rw [u64_andNot_nat n k hn hk, u64_or_nat n k hn hk]
  congr 1
  rw [Bool.eq_iff_iff, beq_iff_eq, beq_iff_eq, show (0 : Int) = ((0 : Nat) : Int) from rfl, Int.ofNat_inj, Int.ofNat_inj]
  exact (andNot_or n k hn hk).symm

/-- no value has a bit that its mask has not. -/
theorem out_ne {x v m : Int} (hx : U64 x) (hv : U64 v) (hm : U64 m) (h : outB v m = true) : (an x m == v) = false := by
  obtain ⟨l, rfl, hl⟩ := nat_of hx
  obtain ⟨n, rfl, hn⟩ := nat_of hv
  obtain ⟨k, rfl, hk⟩ := nat_of hm
  rw [← out_or ⟨by omega, by omega⟩ ⟨by omega, by omega⟩, u64_or_nat n k hn hk] at h
  rw [an_nat l k hl hk, beq_eq_false_iff_ne]
  intro e
  have e' : l &&& k = n := by omega
  subst e'
  have : (l &&& k) ||| k = k := by
    apply Nat.eq_of_testBit_eq
    intro i
    rw [Nat.testBit_or, Nat.testBit_and]
    cases l.testBit i <;> cases k.testBit i <;> rfl
  rw [this] at h
  simp at h

/-- bits that a mask has not do not matter. -/
theorem an_other {x y m : Int} (hx : U64 x) (hy : U64 y) (hm : U64 m) : an (bits BinOp.xor IntKind.u64 x (bits BinOp.andNot IntKind.u64 y m)) m = an x m ∧ U64 (bits BinOp.xor IntKind.u64 x (bits BinOp.andNot IntKind.u64 y m)) := by
  obtain ⟨l, rfl, hl⟩ := nat_of hx
  obtain ⟨n, rfl, hn⟩ := nat_of hy
  obtain ⟨k, rfl, hk⟩ := nat_of hm
  have h1 : n &&& (18446744073709551615 - k) < 2 ^ 64 := Nat.lt_of_le_of_lt Nat.and_le_left (by omega)
  have h2 : l ^^^ (n &&& (18446744073709551615 - k)) < 2 ^ 64 := Nat.xor_lt_two_pow (by omega) h1
  rw [u64_andNot_nat n k hn hk, u64_xor_nat l _ hl (by omega), an_nat _ k (by omega) hk, an_nat l k hl hk]
  refine ⟨?_, by unfold U64; omega⟩
  rw [Int.ofNat_inj]
  have hb : ∀ i, (18446744073709551615 - k).testBit i = (decide (i < 64) && !k.testBit i) := by
    intro i
    have := Nat.testBit_two_pow_sub_succ (x := k) (n := 64) (by omega) i
    rw [← this]
    congr 1
    omega
  apply Nat.eq_of_testBit_eq
  intro i
  rw [Nat.testBit_and, Nat.testBit_and, Nat.testBit_xor, Nat.testBit_and, hb]
  cases l.testBit i <;> cases k.testBit i <;> cases n.testBit i <;> simp

/-- the form of a condition whose op stands in forms holds where the condition does. -/
theorem form_is {o m v x : Int} (ho : hasF o = true) (hx : U64 x) (hv : U64 v) (hm : U64 m) : isN (formN o m v) x = heldB o (an x m) v := by
  obtain ⟨a0, a1⟩ := an_bd hx hm
  have hvv := hv.1
  have hcase : o = 1 ∨ o = 5 ∨ o = 6 := by simpa [hasF, or_assoc] using ho
  rcases hcase with rfl | rfl | rfl
  · by_cases h : outB v m = true
    · have := out_ne hx hv hm h
      simp [formN, h, isN, never, heldB, this]
    · simp [formN, h, isN, heldB, hasF]
  · by_cases h : m ≤ v
    · have : ¬ v < an x m := by omega
      simp [formN, h, isN, never, heldB]
      omega
    · simp [formN, h, isN, heldB, hasF]
  · by_cases h : m < v
    · simp [formN, h, isN, never, heldB]
      omega
    · by_cases h0 : v = 0
      · subst h0
        simp [formN, h, isN, always, heldB]
        omega
      · simp [formN, h, h0, isN, heldB, hasF]

theorem turn_is (n : No) (x : Int) (h : n = always ∨ n = never ∨ (n.al = false ∧ n.ne = false)) : isN (turn n) x = !isN n x := by
  rcases h with rfl | rfl | ⟨h1, h2⟩
  · rfl
  · rfl
  · have e1 : n.same always = false := by simp [No.same, always, h1]
    have e2 : n.same never = false := by simp [No.same, never, h2]
    unfold turn
    rw [e1, e2]
    simp only [Bool.false_eq_true, if_false, isN, h1, h2, Bool.or_self]
    cases (hasF n.o && heldB n.o (an x n.m) n.v) <;> cases n.no <;> rfl

theorem form_kinds (o m v : Int) : formN o m v = always ∨ formN o m v = never ∨ ((formN o m v).al = false ∧ (formN o m v).ne = false) := by
  unfold formN
  split
  · exact .inr (.inl rfl)
  · split
    · exact .inl rfl
    · exact .inr (.inr ⟨rfl, rfl⟩)

theorem opp_has {o : Int} (h1 : 1 ≤ o) (h6 : o ≤ 6) (h : hasF o = false) : hasF (opp o) = true := by
  rcases six h1 h6 with rfl | rfl | rfl | rfl | rfl | rfl <;> simp_all [hasF, opp]

/-- a condition's form holds where the condition does. -/
theorem norm_is {a o m v x : Int} (hr : rightB a o = true) (hx : U64 x) (hv : U64 v) (hm : U64 m) : isN (normN a o m v) x = heldB o (an x m) v := by
  obtain ⟨_, _, h3, h4⟩ := right_bd hr
  unfold normN
  rw [if_pos hr]
  by_cases ho : hasF o = true
  · rw [if_pos ho]
    exact form_is ho hx hv hm
  · rw [if_neg ho, turn_is _ _ (form_kinds _ _ _), form_is (opp_has h3 h4 (by simpa using ho)) hx hv hm, held_opp h3 h4, Bool.not_not]

theorem turn_kinds (n : No) (h : n = always ∨ n = never ∨ (n.al = false ∧ n.ne = false)) : turn n = always ∨ turn n = never ∨ ((turn n).al = false ∧ (turn n).ne = false) := by
  rcases h with rfl | rfl | ⟨h1, h2⟩
  · exact .inr (.inl rfl)
  · exact .inl rfl
  · have e1 : n.same always = false := by simp [No.same, always, h1]
    have e2 : n.same never = false := by simp [No.same, never, h2]
    unfold turn
    rw [e1, e2]
    exact .inr (.inr ⟨h1, h2⟩)

theorem norm_kinds (a o m v : Int) : normN a o m v = always ∨ normN a o m v = never ∨ ((normN a o m v).al = false ∧ (normN a o m v).ne = false) := by
  unfold normN
  split
  · split
    · exact form_kinds _ _ _
    · exact turn_kinds _ (form_kinds _ _ _)
  · exact .inr (.inl rfl)

end Go.Proofs.YtcckipimfgmmdaaGreatDoor.C
