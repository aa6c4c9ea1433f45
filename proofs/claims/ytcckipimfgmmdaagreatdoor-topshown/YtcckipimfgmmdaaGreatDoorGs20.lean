/-
  CMath CMem CSmall CHeld CForm CTurned CNot.
-/
import Derived.Test.YtcckipimfgmmdaaGreatDoorGs16
import Derived.Laws.EntriesVeiled
set_option maxHeartbeats 800000
namespace Go.Proofs.YtcckipimfgmmdaaGreatDoor.C
open V (U64)
def rightB (a o : Int) : Bool := decide (0 <= a) && decide (a < 6) && decide (1 <= o) && decide (o <= 6)
def heldB (o x v : Int) : Bool :=
 if (o == 1) = true then x == v else if (o == 2) = true then !(x == v) else if (o == 3) = true then decide (x < v) else if (o == 4) = true then decide (x <= v) else if (o == 5) = true then decide (v < x) else o == 6 && decide (v <= x)
def an (x m : Int) : Int := bits BinOp.and IntKind.u64 x m
def opp (o : Int) : Int := if o = 1 then 2 else if o = 2 then 1 else if o = 3 then 6 else if o = 4 then 5 else if o = 5 then 4 else if o = 6 then 3 else 0
def hasF (o : Int) : Bool := o == 1 || o == 5 || o == 6
structure No where
 al : Bool
 ne : Bool
 no : Bool
 o : Int
 m : Int
 v : Int
def No.same (x y : No) : Bool := x.al == y.al && x.ne == y.ne && x.no == y.no && x.o == y.o && x.m == y.m && x.v == y.v
theorem No.same_iff (x y : No) : x.same y = true ↔ x = y := by
 obtain ⟨a, b, c, d, e, f⟩ := x
 obtain ⟨a', b', c', d', e', f'⟩ := y
 simp [No.same, and_assoc]
def always : No := ⟨true, false, false, 0, 0, 0⟩
def never : No := ⟨false, true, false, 0, 0, 0⟩
def outB (v m : Int) : Bool := !(bits BinOp.andNot IntKind.u64 v m == 0)
def formN (o m v : Int) : No :=
 if ((o == 1 && outB v m) || (o == 5 && decide (m <= v)) || (o == 6 && decide (m < v))) = true then never
 else if (o == 6 && v == 0) = true then always
 else ⟨false, false, false, o, m, v⟩
def turn (n : No) : No := if n.same always = true then never else if n.same never = true then always else ⟨n.al, n.ne, !n.no, n.o, n.m, n.v⟩
def normN (a o m v : Int) : No := if rightB a o = true then (if hasF o = true then formN o m v else turn (formN (opp o) m v)) else never
def isN (n : No) (x : Int) : Bool := if (n.al || n.ne) = true then n.al else !((hasF n.o && heldB n.o (an x n.m) n.v) == n.no)
theorem right_bd {a o : Int} (h : rightB a o = true) : 0 <= a /\ a < 6 /\ 1 <= o /\ o <= 6 := by
 simp only [rightB, Bool.and_eq_true, decide_eq_true_eq] at h
 omega
theorem six {o : Int} (h1 : 1 <= o) (h6 : o <= 6) : o = 1 \/ o = 2 \/ o = 3 \/ o = 4 \/ o = 5 \/ o = 6 := by omega
theorem held_opp {o : Int} (h1 : 1 <= o) (h6 : o <= 6) (x v : Int) : heldB (opp o) x v = !heldB o x v := by
 rcases six h1 h6 with rfl | rfl | rfl | rfl | rfl | rfl
 all_goals simp [heldB, opp]
 all_goals rw [Bool.eq_iff_iff]
 all_goals simp only [Bool.not_eq_true', decide_eq_true_eq, decide_eq_false_iff_not]
 all_goals omega
theorem nat_of {x : Int} (h : U64 x) : ∃ n : Nat, x = n /\ n < 18446744073709551616 := by
 obtain ⟨h0, h1⟩ := h
 obtain ⟨n, rfl⟩ := Int.eq_ofNat_of_zero_le h0
 exact ⟨n, rfl, by omega⟩
theorem an_nat (n m : Nat) (hn : n < 18446744073709551616) (hm : m < 18446744073709551616) : an n m = ((n &&& m : Nat) : Int) := u64_and_nat n m hn hm
theorem an_bd {x m : Int} (hx : U64 x) (hm : U64 m) : 0 <= an x m /\ an x m <= m := by
 obtain ⟨n, rfl, hn⟩ := nat_of hx
 obtain ⟨k, rfl, hk⟩ := nat_of hm
 rw [an_nat n k hn hk]
 have := @Nat.and_le_right n k
 omega
theorem andNot_or (v m : Nat) (hv : v < 18446744073709551616) (hm : m < 18446744073709551616) : v &&& (18446744073709551615 - m) = 0 ↔ v ||| m = m := by
 have hb : ∀ i, (18446744073709551615 - m).testBit i = (decide (i < 64) && !m.testBit i) := by
  intro i
  have := Nat.testBit_two_pow_sub_succ (x := m) (n := 64) (by omega) i
  rw [<- this]
  congr 1
  omega
 have hi : ∀ i, 64 <= i -> v.testBit i = false := fun i h => Nat.testBit_lt_two_pow (Nat.lt_of_lt_of_le (show v < 2 ^ 64 by omega) (Nat.pow_le_pow_right (by omega) h))
 constructor
 ·intro h
  apply Nat.eq_of_testBit_eq
  intro i
  have := congrArg (fun z => z.testBit i) h
  simp only [Nat.testBit_and, hb, Nat.zero_testBit] at this
  rw [Nat.testBit_or]
  by_cases h6 : i < 64
  ·simp only [h6, decide_true, Bool.true_and] at this
   cases hx : v.testBit i <;> cases hy : m.testBit i <;> simp_all
  ·rw [hi i (by omega), Bool.false_or]
 ·intro h
  apply Nat.eq_of_testBit_eq
  intro i
  have := congrArg (fun z => z.testBit i) h
  simp only [Nat.testBit_or] at this
  rw [Nat.testBit_and, hb, Nat.zero_testBit]
  by_cases h6 : i < 64
  ·simp only [h6, decide_true, Bool.true_and]
   cases hx : v.testBit i <;> cases hy : m.testBit i <;> simp_all
  ·rw [hi i (by omega), Bool.false_and]
theorem out_or {v m : Int} (hv : U64 v) (hm : U64 m) : (!(bits BinOp.or IntKind.u64 v m == m)) = outB v m := by
 obtain ⟨n, rfl, hn⟩ := nat_of hv
 obtain ⟨k, rfl, hk⟩ := nat_of hm
 unfold outB
 rw [u64_andNot_nat n k hn hk, u64_or_nat n k hn hk]
 congr 1
 rw [Bool.eq_iff_iff, beq_iff_eq, beq_iff_eq, show (0 : Int) = ((0 : Nat) : Int) from rfl, Int.ofNat_inj, Int.ofNat_inj]
 exact (andNot_or n k hn hk).symm
theorem out_ne {x v m : Int} (hx : U64 x) (hv : U64 v) (hm : U64 m) (h : outB v m = true) : (an x m == v) = false := by
 obtain ⟨l, rfl, hl⟩ := nat_of hx
 obtain ⟨n, rfl, hn⟩ := nat_of hv
 obtain ⟨k, rfl, hk⟩ := nat_of hm
 rw [<- out_or ⟨by omega, by omega⟩ ⟨by omega, by omega⟩, u64_or_nat n k hn hk] at h
 rw [an_nat l k hl hk, beq_eq_false_iff_ne]
 intro e
 have e' : l &&& k = n := by omega
 subst e'
 have : (l &&& k) ||| k = k := by
  apply Nat.eq_of_testBit_eq
  intro i
  rw [Nat.testBit_or, Nat.testBit_and]
  cases l.testBit i <;> cases k.testBit i <;> rfl
 rw [this] at h
 simp at h
theorem form_is {o m v x : Int} (ho : hasF o = true) (hx : U64 x) (hv : U64 v) (hm : U64 m) : isN (formN o m v) x = heldB o (an x m) v := by
 obtain ⟨a0, a1⟩ := an_bd hx hm
 have hvv := hv.1
 have hcase : o = 1 \/ o = 5 \/ o = 6 := by simpa [hasF, or_assoc] using ho
 rcases hcase with rfl | rfl | rfl
 ·by_cases h : outB v m = true
  ·have := out_ne hx hv hm h
   simp [formN, h, isN, never, heldB, this]
  ·simp [formN, h, isN, heldB, hasF]
 ·by_cases h : m <= v
  ·have : ¬ v < an x m := by omega
   simp [formN, h, isN, never, heldB]
   omega
  ·simp [formN, h, isN, heldB, hasF]
 ·by_cases h : m < v
  ·simp [formN, h, isN, never, heldB]
   omega
  ·by_cases h0 : v = 0
   ·subst h0
    simp [formN, h, isN, always, heldB]
    omega
   ·simp [formN, h, h0, isN, heldB, hasF]
theorem turn_is (n : No) (x : Int) (h : n = always \/ n = never \/ (n.al = false /\ n.ne = false)) : isN (turn n) x = !isN n x := by
 rcases h with rfl | rfl | ⟨h1, h2⟩
 ·rfl
 ·rfl
 ·have e1 : n.same always = false := by simp [No.same, always, h1]
  have e2 : n.same never = false := by simp [No.same, never, h2]
  unfold turn
  rw [e1, e2]
  simp only [Bool.false_eq_true, if_false, isN, h1, h2, Bool.or_self]
  cases (hasF n.o && heldB n.o (an x n.m) n.v) <;> cases n.no <;> rfl
theorem form_kinds (o m v : Int) : formN o m v = always \/ formN o m v = never \/ ((formN o m v).al = false /\ (formN o m v).ne = false) := by
 unfold formN
 split
 ·exact .inr (.inl rfl)
 ·split
  ·exact .inl rfl
  ·exact .inr (.inr ⟨rfl, rfl⟩)
theorem opp_has {o : Int} (h1 : 1 <= o) (h6 : o <= 6) (h : hasF o = false) : hasF (opp o) = true := by
 rcases six h1 h6 with rfl | rfl | rfl | rfl | rfl | rfl <;> simp_all [hasF, opp]
theorem norm_is {a o m v x : Int} (hr : rightB a o = true) (hx : U64 x) (hv : U64 v) (hm : U64 m) : isN (normN a o m v) x = heldB o (an x m) v := by
 obtain ⟨_, _, h3, h4⟩ := right_bd hr
 unfold normN
 rw [if_pos hr]
 by_cases ho : hasF o = true
 ·rw [if_pos ho]
  exact form_is ho hx hv hm
 ·rw [if_neg ho, turn_is _ _ (form_kinds _ _ _), form_is (opp_has h3 h4 (by simpa using ho)) hx hv hm, held_opp h3 h4, Bool.not_not]
open Go.RowKit
theorem Tryz.size139 : (Tryz.prog.info? 139).map (·.size) = some 4 := by kernel_rfl
theorem Tryz.size239 : (Tryz.prog.info? 239).map (·.size) = some 6 := by kernel_rfl
section
variable {w : World} {b : Nat} {t : TypeId} {l : List Value}
end
theorem below_new (w : World) (o : Obj) : Below w.heap.size w (w.alloc o) := (Below.refl _ _).alloc (Nat.le_refl _) _
def No.cells (n : No) : List Value := [.bool n.al, .bool n.ne, .bool n.no, .int .i64 n.o, .int .u64 n.m, .int .u64 n.v]
def No.val (n : No) : Value := .agg n.cells.toArray
theorem equalIn_no (x y : No) (w : World) : (Op.equalIn 10000 239 (.agg #[.bool x.al, .bool x.ne, .bool x.no, .int .i64 x.o, .int .u64 x.m, .int .u64 x.v]) (.agg #[.bool y.al, .bool y.ne, .bool y.no, .int .i64 y.o, .int .u64 y.m, .int .u64 y.v])).run Tryz.prog w = .ok (x.same y) w := by
 have u3 := Tryz.underlying3
 have a3 := Tryz.isAgg3
 have z3 := Tryz.sizeOf3
 have u4 := Tryz.underlying4
 have a4 := Tryz.isAgg4
 have z4 := Tryz.sizeOf4
 have u22 := Tryz.underlying24
 have a22 := Tryz.isAgg24
 have z22 := Tryz.sizeOf24
 have hS : Tryz.prog.underlying 239 = some (.struct (Tryz.prog.fieldsOf 239)) := by kernel_rfl
 have hp : Tryz.prog.stoodInHeld 239 = false := by kernel_rfl
 rw [show (10000 : Nat) = 9999 + 1 from rfl, run_equalIn_agg w 9999 239 _ _ hS hp]
 simp only [Program.fieldsOf, Tryz.underlying239]
 go_simp
 obtain ⟨b0, b1, b2, o, m, v⟩ := x
 obtain ⟨c0, c1, c2, o', m', v'⟩ := y
 unfold No.same
 dsimp only
 by_cases h1 : o = o' <;> by_cases h2 : m = m' <;> by_cases h3 : v = v' <;> cases b0 <;> cases c0 <;> cases b1 <;> cases c1 <;> cases b2 <;> cases c2 <;> simp [h1, h2, h3]
open P (ret_bool)
theorem right_any (a o m v : Int) (w : World) :
  Calls Tryz.prog 102 #[.agg #[.int .i64 a, .int .i64 o, .int .u64 m, .int .u64 v]] w fun e w' => e = .returned (.bool (rightB a o)) /\ Below w.heap.size w w' := by
 have HB : Hid (∀ o, Below w.heap.size w (w.alloc o)) := below_new w
 go_enter Tryz.func102, Tryz.ntmps102
 go_wp2
 all_goals (go_ret; exact ⟨ret_bool (by simp [rightB, *] <;> omega), HB.out _⟩)
theorem hasForm_any (o : Int) (w : World) :
  Calls Tryz.prog 185 #[.int .i64 o] w fun e w' => e = .returned (.bool (hasF o)) /\ w' = w := by
 go_enter Tryz.func185, Tryz.ntmps185
 go_wp2
 all_goals (go_ret; exact ⟨ret_bool (by simp [hasF, *]), rfl⟩)
theorem never_any (w : World) :
  Calls Tryz.prog 184 #[] w fun e w' => e = .returned never.val /\ Below w.heap.size w w' := by
 have HB : Hid (∀ o, Below w.heap.size w (w.alloc o)) := below_new w
 go_enter Tryz.func184, Tryz.ntmps184
 go_wp2
 refine bodyPost_ret (v := never.val) (by simp [results, Tryz.results184, go_sem, never, No.val, No.cells]) rfl ⟨rfl, ?_⟩
 exact HB.out _
theorem always_any (w : World) :
  Calls Tryz.prog 195 #[] w fun e w' => e = .returned always.val /\ Below w.heap.size w w' := by
 have HB : Hid (∀ o, Below w.heap.size w (w.alloc o)) := below_new w
 go_enter Tryz.func195, Tryz.ntmps195
 go_wp2
 refine bodyPost_ret (v := always.val) (by simp [results, Tryz.results195, go_sem, always, No.val, No.cells]) rfl ⟨rfl, ?_⟩
 exact HB.out _
theorem same_any (x v : Int) (w : World) : Calls Tryz.prog 170 #[.int .u64 x, .int .u64 v] w fun e w' => e = .returned (.bool (heldB 1 x v)) /\ w' = w := by
 go_enter Tryz.func170, Tryz.ntmps170
 go_wp2
 go_ret
 exact ⟨ret_bool (by simp [heldB]), rfl⟩
theorem differs_any (x v : Int) (w : World) : Calls Tryz.prog 171 #[.int .u64 x, .int .u64 v] w fun e w' => e = .returned (.bool (heldB 2 x v)) /\ w' = w := by
 go_enter Tryz.func171, Tryz.ntmps171
 go_wp2
 go_ret
 exact ⟨rfl, rfl⟩
theorem less_any (x v : Int) (w : World) : Calls Tryz.prog 172 #[.int .u64 x, .int .u64 v] w fun e w' => e = .returned (.bool (heldB 3 x v)) /\ w' = w := by
 go_enter Tryz.func172, Tryz.ntmps172
 go_wp2
 go_ret
 exact ⟨ret_bool (by simp [heldB]), rfl⟩
theorem atMost_any (x v : Int) (w : World) : Calls Tryz.prog 173 #[.int .u64 x, .int .u64 v] w fun e w' => e = .returned (.bool (heldB 4 x v)) /\ w' = w := by
 go_enter Tryz.func173, Tryz.ntmps173
 go_wp2
 go_ret
 exact ⟨ret_bool (by simp [heldB]), rfl⟩
theorem greater_any (x v : Int) (w : World) : Calls Tryz.prog 174 #[.int .u64 x, .int .u64 v] w fun e w' => e = .returned (.bool (heldB 5 x v)) /\ w' = w := by
 go_enter Tryz.func174, Tryz.ntmps174
 go_wp2
 go_ret
 exact ⟨ret_bool (by simp [heldB]), rfl⟩
theorem atLeast_any (x v : Int) (w : World) : Calls Tryz.prog 175 #[.int .u64 x, .int .u64 v] w fun e w' => e = .returned (.bool (heldB 6 x v)) /\ w' = w := by
 go_enter Tryz.func175, Tryz.ntmps175
 go_wp2
 go_ret
 exact ⟨ret_bool (by simp [heldB]), rfl⟩
theorem comparisons_any (w : World) :
  Calls Tryz.prog 154 #[] w fun e w' => e = .returned (.agg #[.nilFunc, .func (.func 170) #[] #[], .func (.func 171) #[] #[], .func (.func 172) #[] #[], .func (.func 173) #[] #[], .func (.func 174) #[] #[], .func (.func 175) #[] #[]]) /\ Below w.heap.size w w' := by
 have HB : Hid (∀ o, Below w.heap.size w (w.alloc o)) := below_new w
 go_enter Tryz.func154, Tryz.ntmps154
 go_wp2
 refine bodyPost_ret (v := .agg #[.nilFunc, .func (.func 170) #[] #[], .func (.func 171) #[] #[], .func (.func 172) #[] #[], .func (.func 173) #[] #[], .func (.func 174) #[] #[], .func (.func 175) #[] #[]]) (by simp [results, Tryz.results154, go_sem]) rfl ⟨rfl, ?_⟩
 exact HB.out _
theorem opposite_any (o : Int) (w : World) (h1 : 1 <= o) (h6 : o <= 6) :
  Calls Tryz.prog 187 #[.int .i64 o] w fun e w' => e = .returned (.int .i64 (opp o)) /\ Below w.heap.size w w' := by
 have HB : Hid (∀ o, Below w.heap.size w (w.alloc o)) := below_new w
 rcases six h1 h6 with rfl | rfl | rfl | rfl | rfl | rfl
 all_goals
  go_enter Tryz.func187, Tryz.ntmps187
  go_wp2
  go_ret
  exact ⟨rfl, HB.out _⟩
theorem held_any (o x m v : Int) (w : World) (h1 : 1 <= o) (h6 : o <= 6) :
  Calls Tryz.prog 129 #[.int .i64 o, .int .u64 x, .int .u64 m, .int .u64 v] w fun e w' => e = .returned (.bool (heldB o (an x m) v)) /\ Below w.heap.size w w' := by
 have HC : Hid (∀ W : World, Calls Tryz.prog 154 #[] W fun e w' => e = .returned (.agg #[.nilFunc, .func (.func 170) #[] #[], .func (.func 171) #[] #[], .func (.func 172) #[] #[], .func (.func 173) #[] #[], .func (.func 174) #[] #[], .func (.func 175) #[] #[]]) /\ Below W.heap.size W w') := comparisons_any
 have ea : bits BinOp.and IntKind.u64 x m = an x m := rfl
 have G1 : Hid (∀ W : World, Calls Tryz.prog 170 #[.int .u64 (an x m), .int .u64 v] W fun e w' => e = .returned (.bool (heldB 1 (an x m) v)) /\ w' = W) := fun W => same_any _ _ W
 have G2 : Hid (∀ W : World, Calls Tryz.prog 171 #[.int .u64 (an x m), .int .u64 v] W fun e w' => e = .returned (.bool (heldB 2 (an x m) v)) /\ w' = W) := fun W => differs_any _ _ W
 have G3 : Hid (∀ W : World, Calls Tryz.prog 172 #[.int .u64 (an x m), .int .u64 v] W fun e w' => e = .returned (.bool (heldB 3 (an x m) v)) /\ w' = W) := fun W => less_any _ _ W
 have G4 : Hid (∀ W : World, Calls Tryz.prog 173 #[.int .u64 (an x m), .int .u64 v] W fun e w' => e = .returned (.bool (heldB 4 (an x m) v)) /\ w' = W) := fun W => atMost_any _ _ W
 have G5 : Hid (∀ W : World, Calls Tryz.prog 174 #[.int .u64 (an x m), .int .u64 v] W fun e w' => e = .returned (.bool (heldB 5 (an x m) v)) /\ w' = W) := fun W => greater_any _ _ W
 have G6 : Hid (∀ W : World, Calls Tryz.prog 175 #[.int .u64 (an x m), .int .u64 v] W fun e w' => e = .returned (.bool (heldB 6 (an x m) v)) /\ w' = W) := fun W => atLeast_any _ _ W
 generalize an x m = y at *
 rcases six h1 h6 with rfl | rfl | rfl | rfl | rfl | rfl
 ·clear h1 h6 G2 G3 G4 G5 G6
  have hi : ∀ W : World, (Instr.index 222 (.agg #[.nilFunc, .func (.func 170) #[] #[], .func (.func 171) #[] #[], .func (.func 172) #[] #[], .func (.func 173) #[] #[], .func (.func 174) #[] #[], .func (.func 175) #[] #[]]) (.int .i64 1)).run Tryz.prog W = .ok (.func (.func 170) #[] #[]) W := fun W => by kernel_rfl
  go_enter Tryz.func129, Tryz.ntmps129
  go_wp2_with (first | (go_at_call 154; refine (HC.out _).mono ?_; rintro e w1 ⟨rfl, b1⟩) | (go_at_call 170; refine (G1.out _).mono ?_; rintro e w2 ⟨rfl, rfl⟩))
  go_ret
  exact ⟨rfl, b1⟩
 ·clear h1 h6 G1 G3 G4 G5 G6
  have hi : ∀ W : World, (Instr.index 222 (.agg #[.nilFunc, .func (.func 170) #[] #[], .func (.func 171) #[] #[], .func (.func 172) #[] #[], .func (.func 173) #[] #[], .func (.func 174) #[] #[], .func (.func 175) #[] #[]]) (.int .i64 2)).run Tryz.prog W = .ok (.func (.func 171) #[] #[]) W := fun W => by kernel_rfl
  go_enter Tryz.func129, Tryz.ntmps129
  go_wp2_with (first | (go_at_call 154; refine (HC.out _).mono ?_; rintro e w1 ⟨rfl, b1⟩) | (go_at_call 171; refine (G2.out _).mono ?_; rintro e w2 ⟨rfl, rfl⟩))
  go_ret
  exact ⟨rfl, b1⟩
 ·clear h1 h6 G1 G2 G4 G5 G6
  have hi : ∀ W : World, (Instr.index 222 (.agg #[.nilFunc, .func (.func 170) #[] #[], .func (.func 171) #[] #[], .func (.func 172) #[] #[], .func (.func 173) #[] #[], .func (.func 174) #[] #[], .func (.func 175) #[] #[]]) (.int .i64 3)).run Tryz.prog W = .ok (.func (.func 172) #[] #[]) W := fun W => by kernel_rfl
  go_enter Tryz.func129, Tryz.ntmps129
  go_wp2_with (first | (go_at_call 154; refine (HC.out _).mono ?_; rintro e w1 ⟨rfl, b1⟩) | (go_at_call 172; refine (G3.out _).mono ?_; rintro e w2 ⟨rfl, rfl⟩))
  go_ret
  exact ⟨rfl, b1⟩
 ·clear h1 h6 G1 G2 G3 G5 G6
  have hi : ∀ W : World, (Instr.index 222 (.agg #[.nilFunc, .func (.func 170) #[] #[], .func (.func 171) #[] #[], .func (.func 172) #[] #[], .func (.func 173) #[] #[], .func (.func 174) #[] #[], .func (.func 175) #[] #[]]) (.int .i64 4)).run Tryz.prog W = .ok (.func (.func 173) #[] #[]) W := fun W => by kernel_rfl
  go_enter Tryz.func129, Tryz.ntmps129
  go_wp2_with (first | (go_at_call 154; refine (HC.out _).mono ?_; rintro e w1 ⟨rfl, b1⟩) | (go_at_call 173; refine (G4.out _).mono ?_; rintro e w2 ⟨rfl, rfl⟩))
  go_ret
  exact ⟨rfl, b1⟩
 ·clear h1 h6 G1 G2 G3 G4 G6
  have hi : ∀ W : World, (Instr.index 222 (.agg #[.nilFunc, .func (.func 170) #[] #[], .func (.func 171) #[] #[], .func (.func 172) #[] #[], .func (.func 173) #[] #[], .func (.func 174) #[] #[], .func (.func 175) #[] #[]]) (.int .i64 5)).run Tryz.prog W = .ok (.func (.func 174) #[] #[]) W := fun W => by kernel_rfl
  go_enter Tryz.func129, Tryz.ntmps129
  go_wp2_with (first | (go_at_call 154; refine (HC.out _).mono ?_; rintro e w1 ⟨rfl, b1⟩) | (go_at_call 174; refine (G5.out _).mono ?_; rintro e w2 ⟨rfl, rfl⟩))
  go_ret
  exact ⟨rfl, b1⟩
 ·clear h1 h6 G1 G2 G3 G4 G5
  have hi : ∀ W : World, (Instr.index 222 (.agg #[.nilFunc, .func (.func 170) #[] #[], .func (.func 171) #[] #[], .func (.func 172) #[] #[], .func (.func 173) #[] #[], .func (.func 174) #[] #[], .func (.func 175) #[] #[]]) (.int .i64 6)).run Tryz.prog W = .ok (.func (.func 175) #[] #[]) W := fun W => by kernel_rfl
  go_enter Tryz.func129, Tryz.ntmps129
  go_wp2_with (first | (go_at_call 154; refine (HC.out _).mono ?_; rintro e w1 ⟨rfl, b1⟩) | (go_at_call 175; refine (G6.out _).mono ?_; rintro e w2 ⟨rfl, rfl⟩))
  go_ret
  exact ⟨rfl, b1⟩
open P (Blk Blk.row)
open V (blk_new')
theorem at_op {P : Program} {ops : Array Oper} {Q : Exit -> Act -> World -> Prop} {rest : List Oper} {o : Oper} {a : Act} {w : World} (op : Op) (_ho : o.op = op) (h : wpList P ops Q (o :: rest) a w) : wpList P ops Q (o :: rest) a w := h
theorem room (w : World) (cs : Array Value) (t : TypeId) : Blk ((w.alloc (Obj.cells cs t)).alloc (Obj.cells #[.bool false, .bool false, .bool false, .int .i64 0, .int .u64 0, .int .u64 0] 239)) (w.heap.size + 1) 239 [.bool false, .bool false, .bool false, .int .i64 0, .int .u64 0, .int .u64 0] := blk_new' w _ _ 239
theorem room_below (w : World) (o o' : Obj) : Below w.heap.size w ((w.alloc o).alloc o') := (below_new w o).alloc (below_new w o).size _
theorem no_one (n : No) : n.cells.toArray.all (·.oneCell') = true := by simp [No.cells, Value.oneCell']
theorem no_size (n : No) : (Tryz.prog.info? 239).map (·.size) = some n.cells.toArray.size := Tryz.size239
theorem form_1_never (a m v : Int) (w : World) (h : (bits BinOp.andNot IntKind.u64 v m == 0) = false) :
  Calls Tryz.prog 186 #[.agg #[.int .i64 a, .int .i64 1, .int .u64 m, .int .u64 v]] w fun e w' => e = .returned never.val /\ Below w.heap.size w w' := by
 have HN : Hid (∀ W : World, Calls Tryz.prog 184 #[] W fun e w' => e = .returned never.val /\ Below W.heap.size W w') := never_any
 have HZ : Hid (∀ cs : Array Value, Blk ((w.alloc (Obj.cells cs 139)).alloc (Obj.cells #[.bool false, .bool false, .bool false, .int .i64 0, .int .u64 0, .int .u64 0] 239)) (w.heap.size + 1) 239 [.bool false, .bool false, .bool false, .int .i64 0, .int .u64 0, .int .u64 0]) := fun cs => room w cs 139
 have HB : Hid (∀ o o', Below w.heap.size w ((w.alloc o).alloc o')) := room_below w
 go_enter Tryz.func186, Tryz.ntmps186
 go_wp2_with (first | (go_at_call 184; refine (HN.out _).mono ?_; rintro e w1 ⟨rfl, b1⟩; have D1 : Hid (Blk w1 (w.heap.size + 1) 239 [.bool false, .bool false, .bool false, .int .i64 0, .int .u64 0, .int .u64 0]) := (HZ.out _).over b1; have B1 : Hid (Below w.heap.size w w1) := (HB.out _ _).trans (b1.mono (HB.out _ _).size); clear b1) | (refine at_op (.store 239 (.tmp 2) (.tmp 35)) rfl ?_; refine wpList_store_row rfl 239 (.tmp 2) (.tmp 35) rfl (w.heap.size + 1) never.cells.toArray rfl rfl 239 _ D1.out (no_size _) rfl (no_one _) ?_))
 refine bodyPost_ret (v := never.val) ?_ rfl ⟨rfl, ?_⟩
 ·exact results_cell_row Tryz.results186 _ _ (w.heap.size + 1) 239 never.cells.toArray (0, 0) _ rfl (Blk.row D1.out _) Tryz.underlying239 rfl (no_size _)
 ·exact below_setRow B1.out (Nat.le_succ _) _
theorem form_1_plain (a m v : Int) (w : World) (h : (bits BinOp.andNot IntKind.u64 v m == 0) = true) :
  Calls Tryz.prog 186 #[.agg #[.int .i64 a, .int .i64 1, .int .u64 m, .int .u64 v]] w fun e w' => e = .returned (No.mk false false false 1 m v).val /\ Below w.heap.size w w' := by
 have HB : Hid (∀ o o', Below w.heap.size w ((w.alloc o).alloc o')) := room_below w
 go_enter Tryz.func186, Tryz.ntmps186
 go_wp2
 refine bodyPost_ret (v := (No.mk false false false 1 m v).val) (by simp [results, Tryz.results186, go_sem, No.val, No.cells]) rfl ⟨rfl, ?_⟩
 exact HB.out _ _
theorem form_5_never (a m v : Int) (w : World) (h : m <= v) :
  Calls Tryz.prog 186 #[.agg #[.int .i64 a, .int .i64 5, .int .u64 m, .int .u64 v]] w fun e w' => e = .returned never.val /\ Below w.heap.size w w' := by
 have HN : Hid (∀ W : World, Calls Tryz.prog 184 #[] W fun e w' => e = .returned never.val /\ Below W.heap.size W w') := never_any
 have HZ : Hid (∀ cs : Array Value, Blk ((w.alloc (Obj.cells cs 139)).alloc (Obj.cells #[.bool false, .bool false, .bool false, .int .i64 0, .int .u64 0, .int .u64 0] 239)) (w.heap.size + 1) 239 [.bool false, .bool false, .bool false, .int .i64 0, .int .u64 0, .int .u64 0]) := fun cs => room w cs 139
 have HB : Hid (∀ o o', Below w.heap.size w ((w.alloc o).alloc o')) := room_below w
 go_enter Tryz.func186, Tryz.ntmps186
 go_wp2_with (first | (go_at_call 184; refine (HN.out _).mono ?_; rintro e w1 ⟨rfl, b1⟩; have D1 : Hid (Blk w1 (w.heap.size + 1) 239 [.bool false, .bool false, .bool false, .int .i64 0, .int .u64 0, .int .u64 0]) := (HZ.out _).over b1; have B1 : Hid (Below w.heap.size w w1) := (HB.out _ _).trans (b1.mono (HB.out _ _).size); clear b1) | (refine at_op (.store 239 (.tmp 2) (.tmp 35)) rfl ?_; refine wpList_store_row rfl 239 (.tmp 2) (.tmp 35) rfl (w.heap.size + 1) never.cells.toArray rfl rfl 239 _ D1.out (no_size _) rfl (no_one _) ?_))
 refine bodyPost_ret (v := never.val) ?_ rfl ⟨rfl, ?_⟩
 ·exact results_cell_row Tryz.results186 _ _ (w.heap.size + 1) 239 never.cells.toArray (0, 0) _ rfl (Blk.row D1.out _) Tryz.underlying239 rfl (no_size _)
 ·exact below_setRow B1.out (Nat.le_succ _) _
theorem form_5_plain (a m v : Int) (w : World) (h : v < m) :
  Calls Tryz.prog 186 #[.agg #[.int .i64 a, .int .i64 5, .int .u64 m, .int .u64 v]] w fun e w' => e = .returned (No.mk false false false 5 m v).val /\ Below w.heap.size w w' := by
 have HB : Hid (∀ o o', Below w.heap.size w ((w.alloc o).alloc o')) := room_below w
 go_enter Tryz.func186, Tryz.ntmps186
 go_wp2
 refine bodyPost_ret (v := (No.mk false false false 5 m v).val) (by simp [results, Tryz.results186, go_sem, No.val, No.cells]) rfl ⟨rfl, ?_⟩
 exact HB.out _ _
theorem form_6_never (a m v : Int) (w : World) (h : m < v) :
  Calls Tryz.prog 186 #[.agg #[.int .i64 a, .int .i64 6, .int .u64 m, .int .u64 v]] w fun e w' => e = .returned never.val /\ Below w.heap.size w w' := by
 have HN : Hid (∀ W : World, Calls Tryz.prog 184 #[] W fun e w' => e = .returned never.val /\ Below W.heap.size W w') := never_any
 have HZ : Hid (∀ cs : Array Value, Blk ((w.alloc (Obj.cells cs 139)).alloc (Obj.cells #[.bool false, .bool false, .bool false, .int .i64 0, .int .u64 0, .int .u64 0] 239)) (w.heap.size + 1) 239 [.bool false, .bool false, .bool false, .int .i64 0, .int .u64 0, .int .u64 0]) := fun cs => room w cs 139
 have HB : Hid (∀ o o', Below w.heap.size w ((w.alloc o).alloc o')) := room_below w
 go_enter Tryz.func186, Tryz.ntmps186
 go_wp2_with (first | (go_at_call 184; refine (HN.out _).mono ?_; rintro e w1 ⟨rfl, b1⟩; have D1 : Hid (Blk w1 (w.heap.size + 1) 239 [.bool false, .bool false, .bool false, .int .i64 0, .int .u64 0, .int .u64 0]) := (HZ.out _).over b1; have B1 : Hid (Below w.heap.size w w1) := (HB.out _ _).trans (b1.mono (HB.out _ _).size); clear b1) | (refine at_op (.store 239 (.tmp 2) (.tmp 35)) rfl ?_; refine wpList_store_row rfl 239 (.tmp 2) (.tmp 35) rfl (w.heap.size + 1) never.cells.toArray rfl rfl 239 _ D1.out (no_size _) rfl (no_one _) ?_))
 refine bodyPost_ret (v := never.val) ?_ rfl ⟨rfl, ?_⟩
 ·exact results_cell_row Tryz.results186 _ _ (w.heap.size + 1) 239 never.cells.toArray (0, 0) _ rfl (Blk.row D1.out _) Tryz.underlying239 rfl (no_size _)
 ·exact below_setRow B1.out (Nat.le_succ _) _
theorem form_6_always (a m v : Int) (w : World) (h : v <= m) (h0 : (v == 0) = true) :
  Calls Tryz.prog 186 #[.agg #[.int .i64 a, .int .i64 6, .int .u64 m, .int .u64 v]] w fun e w' => e = .returned always.val /\ Below w.heap.size w w' := by
 have HN : Hid (∀ W : World, Calls Tryz.prog 195 #[] W fun e w' => e = .returned always.val /\ Below W.heap.size W w') := always_any
 have HZ : Hid (∀ cs : Array Value, Blk ((w.alloc (Obj.cells cs 139)).alloc (Obj.cells #[.bool false, .bool false, .bool false, .int .i64 0, .int .u64 0, .int .u64 0] 239)) (w.heap.size + 1) 239 [.bool false, .bool false, .bool false, .int .i64 0, .int .u64 0, .int .u64 0]) := fun cs => room w cs 139
 have HB : Hid (∀ o o', Below w.heap.size w ((w.alloc o).alloc o')) := room_below w
 go_enter Tryz.func186, Tryz.ntmps186
 go_wp2_with (first | (go_at_call 195; refine (HN.out _).mono ?_; rintro e w1 ⟨rfl, b1⟩; have D1 : Hid (Blk w1 (w.heap.size + 1) 239 [.bool false, .bool false, .bool false, .int .i64 0, .int .u64 0, .int .u64 0]) := (HZ.out _).over b1; have B1 : Hid (Below w.heap.size w w1) := (HB.out _ _).trans (b1.mono (HB.out _ _).size); clear b1) | (refine at_op (.store 239 (.tmp 2) (.tmp 45)) rfl ?_; refine wpList_store_row rfl 239 (.tmp 2) (.tmp 45) rfl (w.heap.size + 1) always.cells.toArray rfl rfl 239 _ D1.out (no_size _) rfl (no_one _) ?_))
 refine bodyPost_ret (v := always.val) ?_ rfl ⟨rfl, ?_⟩
 ·exact results_cell_row Tryz.results186 _ _ (w.heap.size + 1) 239 always.cells.toArray (0, 0) _ rfl (Blk.row D1.out _) Tryz.underlying239 rfl (no_size _)
 ·exact below_setRow B1.out (Nat.le_succ _) _
theorem form_6_plain (a m v : Int) (w : World) (h : v <= m) (h0 : (v == 0) = false) :
  Calls Tryz.prog 186 #[.agg #[.int .i64 a, .int .i64 6, .int .u64 m, .int .u64 v]] w fun e w' => e = .returned (No.mk false false false 6 m v).val /\ Below w.heap.size w w' := by
 have HB : Hid (∀ o o', Below w.heap.size w ((w.alloc o).alloc o')) := room_below w
 go_enter Tryz.func186, Tryz.ntmps186
 go_wp2
 refine bodyPost_ret (v := (No.mk false false false 6 m v).val) (by simp [results, Tryz.results186, go_sem, No.val, No.cells]) rfl ⟨rfl, ?_⟩
 exact HB.out _ _
theorem form_any (a o m v : Int) (w : World) (ho : hasF o = true) :
  Calls Tryz.prog 186 #[.agg #[.int .i64 a, .int .i64 o, .int .u64 m, .int .u64 v]] w fun e w' => e = .returned (formN o m v).val /\ Below w.heap.size w w' := by
 have hcase : o = 1 \/ o = 5 \/ o = 6 := by simpa [hasF, or_assoc] using ho
 rcases hcase with rfl | rfl | rfl
 ·by_cases h : outB v m = true
  ·have e : formN 1 m v = never := by simp [formN, h]
   rw [e]
   exact form_1_never a m v w (by simpa [outB] using h)
  ·have e : formN 1 m v = ⟨false, false, false, 1, m, v⟩ := by simp [formN, h]
   rw [e]
   exact form_1_plain a m v w (by simpa [outB] using h)
 ·by_cases h : m <= v
  ·have e : formN 5 m v = never := by simp [formN, h]
   rw [e]
   exact form_5_never a m v w h
  ·have e : formN 5 m v = ⟨false, false, false, 5, m, v⟩ := by simp [formN, h]
   rw [e]
   exact form_5_plain a m v w (by omega)
 ·by_cases h : m < v
  ·have e : formN 6 m v = never := by simp [formN, h]
   rw [e]
   exact form_6_never a m v w h
  ·by_cases h0 : v = 0
   ·have e : formN 6 m v = always := by subst h0; simp [formN, h]
    rw [e]
    exact form_6_always a m v w (by omega) (by simp [h0])
   ·have e : formN 6 m v = ⟨false, false, false, 6, m, v⟩ := by simp [formN, h, h0]
    rw [e]
    exact form_6_plain a m v w (by omega) (by simp [h0])
open P (blk_new)
def Kn (w : World) (n : No) (X : World) : Prop := Blk X w.heap.size 239 n.cells /\ Blk X (w.heap.size + 1) 239 [.bool false, .bool false, .bool false, .int .i64 0, .int .u64 0, .int .u64 0] /\ Below w.heap.size w X
theorem Kn.over {w X Y : World} {n : No} (h : Kn w n X) (hb : Below X.heap.size X Y) : Kn w n Y := ⟨h.1.over hb, h.2.1.over hb, h.2.2.trans (hb.mono h.2.2.size)⟩
theorem Kn.all {w X : World} {b0 b1 b2 : Bool} {o m v : Int} (h : Kn w ⟨b0, b1, b2, o, m, v⟩ X) : (fun X => X.cell? ⟨w.heap.size, 0, none⟩ = some (.bool b0) /\ X.cell? ⟨w.heap.size, 1, none⟩ = some (.bool b1) /\ X.cell? ⟨w.heap.size, 2, none⟩ = some (.bool b2) /\ X.cell? ⟨w.heap.size, 3, none⟩ = some (.int .i64 o) /\ X.cell? ⟨w.heap.size, 4, none⟩ = some (.int .u64 m) /\ X.cell? ⟨w.heap.size, 5, none⟩ = some (.int .u64 v) /\ Kn w ⟨b0, b1, b2, o, m, v⟩ X) X := ⟨h.1.cell 0, h.1.cell 1, h.1.cell 2, h.1.cell 3, h.1.cell 4, h.1.cell 5, h⟩
theorem kn_new (w : World) (b0 b1 b2 : Bool) (o m v : Int) : Kn w ⟨b0, b1, b2, o, m, v⟩ ((w.alloc (Obj.cells #[.bool b0, .bool b1, .bool b2, .int .i64 o, .int .u64 m, .int .u64 v] 239)).alloc (Obj.cells #[.bool false, .bool false, .bool false, .int .i64 0, .int .u64 0, .int .u64 0] 239)) :=
 ⟨(blk_new w _ 239).alloc _, room w _ 239, room_below w _ _⟩
theorem turned_always (w : World) :
  Calls Tryz.prog 188 #[(.agg #[.bool true, .bool false, .bool false, .int .i64 0, .int .u64 0, .int .u64 0])] w fun e w' => e = .returned never.val /\ Below w.heap.size w w' := by
 have HK : Hid (Kn w always ((w.alloc (Obj.cells #[.bool true, .bool false, .bool false, .int .i64 0, .int .u64 0, .int .u64 0] 239)).alloc (Obj.cells #[.bool false, .bool false, .bool false, .int .i64 0, .int .u64 0, .int .u64 0] 239))) := kn_new w true false false 0 0 0
 have hS0 := (HK.out.over (Below.refl _ _).drew).all
 have HA : Hid (∀ W : World, (fun X => X.cell? ⟨w.heap.size, 0, none⟩ = some (.bool true) /\ X.cell? ⟨w.heap.size, 1, none⟩ = some (.bool false) /\ X.cell? ⟨w.heap.size, 2, none⟩ = some (.bool false) /\ X.cell? ⟨w.heap.size, 3, none⟩ = some (.int .i64 0) /\ X.cell? ⟨w.heap.size, 4, none⟩ = some (.int .u64 0) /\ X.cell? ⟨w.heap.size, 5, none⟩ = some (.int .u64 0) /\ Kn w always X) W -> Calls Tryz.prog 195 #[] W fun e w' => e = .returned (.agg #[.bool true, .bool false, .bool false, .int .i64 0, .int .u64 0, .int .u64 0]) /\ (fun X => X.cell? ⟨w.heap.size, 0, none⟩ = some (.bool true) /\ X.cell? ⟨w.heap.size, 1, none⟩ = some (.bool false) /\ X.cell? ⟨w.heap.size, 2, none⟩ = some (.bool false) /\ X.cell? ⟨w.heap.size, 3, none⟩ = some (.int .i64 0) /\ X.cell? ⟨w.heap.size, 4, none⟩ = some (.int .u64 0) /\ X.cell? ⟨w.heap.size, 5, none⟩ = some (.int .u64 0) /\ Kn w always X) w') := fun W hS => (always_any W).mono fun e w' h => ⟨h.1, (hS.2.2.2.2.2.2.over h.2).all⟩
 have HN : Hid (∀ W : World, Calls Tryz.prog 184 #[] W fun e w' => e = .returned (.agg #[.bool false, .bool true, .bool false, .int .i64 0, .int .u64 0, .int .u64 0]) /\ Below W.heap.size W w') := never_any
 have hq : ∀ W : World, (Op.equalIn 10000 239 (.agg #[.bool true, .bool false, .bool false, .int .i64 0, .int .u64 0, .int .u64 0]) (.agg #[.bool true, .bool false, .bool false, .int .i64 0, .int .u64 0, .int .u64 0])).run Tryz.prog W = .ok true W := fun W => equalIn_no always always W
 have HKn : Hid (∀ X, (fun X => X.cell? ⟨w.heap.size, 0, none⟩ = some (.bool true) /\ X.cell? ⟨w.heap.size, 1, none⟩ = some (.bool false) /\ X.cell? ⟨w.heap.size, 2, none⟩ = some (.bool false) /\ X.cell? ⟨w.heap.size, 3, none⟩ = some (.int .i64 0) /\ X.cell? ⟨w.heap.size, 4, none⟩ = some (.int .u64 0) /\ X.cell? ⟨w.heap.size, 5, none⟩ = some (.int .u64 0) /\ Kn w always X) X -> Kn w always X) := fun X h => h.2.2.2.2.2.2
 dsimp only at HA HKn hS0
 go_enter Tryz.func188, Tryz.ntmps188
 go_wp2
 go_region_held3 (fun X => X.cell? ⟨w.heap.size, 0, none⟩ = some (.bool true) /\ X.cell? ⟨w.heap.size, 1, none⟩ = some (.bool false) /\ X.cell? ⟨w.heap.size, 2, none⟩ = some (.bool false) /\ X.cell? ⟨w.heap.size, 3, none⟩ = some (.int .i64 0) /\ X.cell? ⟨w.heap.size, 4, none⟩ = some (.int .u64 0) /\ X.cell? ⟨w.heap.size, 5, none⟩ = some (.int .u64 0) /\ Kn w always X) (first | assumption | go_keep) (first | (go_at_call 195; refine (HA.out _ (by assumption)).mono ?_; rintro e w5 ⟨rfl, hS5⟩))
 all_goals
  have hk : Hid (Kn w always _) := HKn.out _ (by assumption)
  go_wp2_with (first | (go_at_call 184; refine (HN.out _).mono ?_; rintro e w1 ⟨rfl, b1⟩; have K1 : Hid (Kn w always w1) := hk.out.over b1) | (refine at_op (.store 239 (.tmp 2) (.tmp 6)) rfl ?_; refine wpList_store_row rfl 239 (.tmp 2) (.tmp 6) rfl (w.heap.size + 1) never.cells.toArray rfl rfl 239 _ K1.out.2.1 (no_size _) rfl (no_one _) ?_))
  refine bodyPost_ret (v := never.val) ?_ rfl ⟨rfl, ?_⟩
  ·exact results_cell_row Tryz.results188 _ _ (w.heap.size + 1) 239 never.cells.toArray (0, 0) _ rfl (Blk.row K1.out.2.1 _) Tryz.underlying239 rfl (no_size _)
  ·exact below_setRow K1.out.2.2 (Nat.le_succ _) _
theorem turned_never (w : World) :
  Calls Tryz.prog 188 #[(.agg #[.bool false, .bool true, .bool false, .int .i64 0, .int .u64 0, .int .u64 0])] w fun e w' => e = .returned always.val /\ Below w.heap.size w w' := by
 have HK : Hid (Kn w never ((w.alloc (Obj.cells #[.bool false, .bool true, .bool false, .int .i64 0, .int .u64 0, .int .u64 0] 239)).alloc (Obj.cells #[.bool false, .bool false, .bool false, .int .i64 0, .int .u64 0, .int .u64 0] 239))) := kn_new w false true false 0 0 0
 have hS0 := (HK.out.over (Below.refl _ _).drew).all
 have HA : Hid (∀ W : World, (fun X => X.cell? ⟨w.heap.size, 0, none⟩ = some (.bool false) /\ X.cell? ⟨w.heap.size, 1, none⟩ = some (.bool true) /\ X.cell? ⟨w.heap.size, 2, none⟩ = some (.bool false) /\ X.cell? ⟨w.heap.size, 3, none⟩ = some (.int .i64 0) /\ X.cell? ⟨w.heap.size, 4, none⟩ = some (.int .u64 0) /\ X.cell? ⟨w.heap.size, 5, none⟩ = some (.int .u64 0) /\ Kn w never X) W -> Calls Tryz.prog 195 #[] W fun e w' => e = .returned (.agg #[.bool true, .bool false, .bool false, .int .i64 0, .int .u64 0, .int .u64 0]) /\ (fun X => X.cell? ⟨w.heap.size, 0, none⟩ = some (.bool false) /\ X.cell? ⟨w.heap.size, 1, none⟩ = some (.bool true) /\ X.cell? ⟨w.heap.size, 2, none⟩ = some (.bool false) /\ X.cell? ⟨w.heap.size, 3, none⟩ = some (.int .i64 0) /\ X.cell? ⟨w.heap.size, 4, none⟩ = some (.int .u64 0) /\ X.cell? ⟨w.heap.size, 5, none⟩ = some (.int .u64 0) /\ Kn w never X) w') := fun W hS => (always_any W).mono fun e w' h => ⟨h.1, (hS.2.2.2.2.2.2.over h.2).all⟩
 have HN : Hid (∀ W : World, (fun X => X.cell? ⟨w.heap.size, 0, none⟩ = some (.bool false) /\ X.cell? ⟨w.heap.size, 1, none⟩ = some (.bool true) /\ X.cell? ⟨w.heap.size, 2, none⟩ = some (.bool false) /\ X.cell? ⟨w.heap.size, 3, none⟩ = some (.int .i64 0) /\ X.cell? ⟨w.heap.size, 4, none⟩ = some (.int .u64 0) /\ X.cell? ⟨w.heap.size, 5, none⟩ = some (.int .u64 0) /\ Kn w never X) W -> Calls Tryz.prog 184 #[] W fun e w' => e = .returned (.agg #[.bool false, .bool true, .bool false, .int .i64 0, .int .u64 0, .int .u64 0]) /\ (fun X => X.cell? ⟨w.heap.size, 0, none⟩ = some (.bool false) /\ X.cell? ⟨w.heap.size, 1, none⟩ = some (.bool true) /\ X.cell? ⟨w.heap.size, 2, none⟩ = some (.bool false) /\ X.cell? ⟨w.heap.size, 3, none⟩ = some (.int .i64 0) /\ X.cell? ⟨w.heap.size, 4, none⟩ = some (.int .u64 0) /\ X.cell? ⟨w.heap.size, 5, none⟩ = some (.int .u64 0) /\ Kn w never X) w') := fun W hS => (never_any W).mono fun e w' h => ⟨h.1, (hS.2.2.2.2.2.2.over h.2).all⟩
 have HA2 : Hid (∀ W : World, Calls Tryz.prog 195 #[] W fun e w' => e = .returned (.agg #[.bool true, .bool false, .bool false, .int .i64 0, .int .u64 0, .int .u64 0]) /\ Below W.heap.size W w') := always_any
 have hq : ∀ W : World, (Op.equalIn 10000 239 (.agg #[.bool false, .bool true, .bool false, .int .i64 0, .int .u64 0, .int .u64 0]) (.agg #[.bool true, .bool false, .bool false, .int .i64 0, .int .u64 0, .int .u64 0])).run Tryz.prog W = .ok false W := fun W => equalIn_no never always W
 have hq2 : ∀ W : World, (Op.equalIn 10000 239 (.agg #[.bool false, .bool true, .bool false, .int .i64 0, .int .u64 0, .int .u64 0]) (.agg #[.bool false, .bool true, .bool false, .int .i64 0, .int .u64 0, .int .u64 0])).run Tryz.prog W = .ok true W := fun W => equalIn_no never never W
 have HKn : Hid (∀ X, (fun X => X.cell? ⟨w.heap.size, 0, none⟩ = some (.bool false) /\ X.cell? ⟨w.heap.size, 1, none⟩ = some (.bool true) /\ X.cell? ⟨w.heap.size, 2, none⟩ = some (.bool false) /\ X.cell? ⟨w.heap.size, 3, none⟩ = some (.int .i64 0) /\ X.cell? ⟨w.heap.size, 4, none⟩ = some (.int .u64 0) /\ X.cell? ⟨w.heap.size, 5, none⟩ = some (.int .u64 0) /\ Kn w never X) X -> Kn w never X) := fun X h => h.2.2.2.2.2.2
 have HKd : Hid (∀ X, Kn w never X -> (fun X => X.cell? ⟨w.heap.size, 0, none⟩ = some (.bool false) /\ X.cell? ⟨w.heap.size, 1, none⟩ = some (.bool true) /\ X.cell? ⟨w.heap.size, 2, none⟩ = some (.bool false) /\ X.cell? ⟨w.heap.size, 3, none⟩ = some (.int .i64 0) /\ X.cell? ⟨w.heap.size, 4, none⟩ = some (.int .u64 0) /\ X.cell? ⟨w.heap.size, 5, none⟩ = some (.int .u64 0) /\ Kn w never X) X.drew) := fun X h => (h.over (Below.refl _ _).drew).all
 dsimp only at HA HN HKn HKd hS0
 go_enter Tryz.func188, Tryz.ntmps188
 go_wp2
 go_region_held3 (fun X => X.cell? ⟨w.heap.size, 0, none⟩ = some (.bool false) /\ X.cell? ⟨w.heap.size, 1, none⟩ = some (.bool true) /\ X.cell? ⟨w.heap.size, 2, none⟩ = some (.bool false) /\ X.cell? ⟨w.heap.size, 3, none⟩ = some (.int .i64 0) /\ X.cell? ⟨w.heap.size, 4, none⟩ = some (.int .u64 0) /\ X.cell? ⟨w.heap.size, 5, none⟩ = some (.int .u64 0) /\ Kn w never X) (first | assumption | go_keep) (first | (go_at_call 195; refine (HA.out _ (by assumption)).mono ?_; rintro e w5 ⟨rfl, hS5⟩))
 all_goals
  have hS1 := HKd.out _ (HKn.out _ (by assumption))
  clear hS0
  go_wp2
  go_region_held3 (fun X => X.cell? ⟨w.heap.size, 0, none⟩ = some (.bool false) /\ X.cell? ⟨w.heap.size, 1, none⟩ = some (.bool true) /\ X.cell? ⟨w.heap.size, 2, none⟩ = some (.bool false) /\ X.cell? ⟨w.heap.size, 3, none⟩ = some (.int .i64 0) /\ X.cell? ⟨w.heap.size, 4, none⟩ = some (.int .u64 0) /\ X.cell? ⟨w.heap.size, 5, none⟩ = some (.int .u64 0) /\ Kn w never X) (first | assumption | go_keep) (first | (go_at_call 184; refine (HN.out _ (by assumption)).mono ?_; rintro e w6 ⟨rfl, hS6⟩))
  all_goals
   have hk : Hid (Kn w never _) := HKn.out _ (by assumption)
   go_wp2_with (first | (go_at_call 195; refine (HA2.out _).mono ?_; rintro e w1 ⟨rfl, b1⟩; have K1 : Hid (Kn w never w1) := hk.out.over b1) | (refine at_op (.store 239 (.tmp 2) (.tmp 10)) rfl ?_; refine wpList_store_row rfl 239 (.tmp 2) (.tmp 10) rfl (w.heap.size + 1) always.cells.toArray rfl rfl 239 _ K1.out.2.1 (no_size _) rfl (no_one _) ?_))
   refine bodyPost_ret (v := always.val) ?_ rfl ⟨rfl, ?_⟩
   ·exact results_cell_row Tryz.results188 _ _ (w.heap.size + 1) 239 always.cells.toArray (0, 0) _ rfl (Blk.row K1.out.2.1 _) Tryz.underlying239 rfl (no_size _)
   ·exact below_setRow K1.out.2.2 (Nat.le_succ _) _
theorem turned_plain (b0 b1 b2 : Bool) (o m v : Int) (w : World) (ha : (No.mk b0 b1 b2 o m v).same always = false) (hn : (No.mk b0 b1 b2 o m v).same never = false) :
  Calls Tryz.prog 188 #[(.agg #[.bool b0, .bool b1, .bool b2, .int .i64 o, .int .u64 m, .int .u64 v])] w fun e w' => e = .returned (No.mk b0 b1 (!b2) o m v).val /\ Below w.heap.size w w' := by
 have HK : Hid (Kn w ⟨b0, b1, b2, o, m, v⟩ ((w.alloc (Obj.cells #[.bool b0, .bool b1, .bool b2, .int .i64 o, .int .u64 m, .int .u64 v] 239)).alloc (Obj.cells #[.bool false, .bool false, .bool false, .int .i64 0, .int .u64 0, .int .u64 0] 239))) := kn_new w b0 b1 b2 o m v
 have hS0 := (HK.out.over (Below.refl _ _).drew).all
 have HA : Hid (∀ W : World, (fun X => X.cell? ⟨w.heap.size, 0, none⟩ = some (.bool b0) /\ X.cell? ⟨w.heap.size, 1, none⟩ = some (.bool b1) /\ X.cell? ⟨w.heap.size, 2, none⟩ = some (.bool b2) /\ X.cell? ⟨w.heap.size, 3, none⟩ = some (.int .i64 o) /\ X.cell? ⟨w.heap.size, 4, none⟩ = some (.int .u64 m) /\ X.cell? ⟨w.heap.size, 5, none⟩ = some (.int .u64 v) /\ Kn w ⟨b0, b1, b2, o, m, v⟩ X) W -> Calls Tryz.prog 195 #[] W fun e w' => e = .returned (.agg #[.bool true, .bool false, .bool false, .int .i64 0, .int .u64 0, .int .u64 0]) /\ (fun X => X.cell? ⟨w.heap.size, 0, none⟩ = some (.bool b0) /\ X.cell? ⟨w.heap.size, 1, none⟩ = some (.bool b1) /\ X.cell? ⟨w.heap.size, 2, none⟩ = some (.bool b2) /\ X.cell? ⟨w.heap.size, 3, none⟩ = some (.int .i64 o) /\ X.cell? ⟨w.heap.size, 4, none⟩ = some (.int .u64 m) /\ X.cell? ⟨w.heap.size, 5, none⟩ = some (.int .u64 v) /\ Kn w ⟨b0, b1, b2, o, m, v⟩ X) w') := fun W hS => (always_any W).mono fun e w' h => ⟨h.1, (hS.2.2.2.2.2.2.over h.2).all⟩
 have HN : Hid (∀ W : World, (fun X => X.cell? ⟨w.heap.size, 0, none⟩ = some (.bool b0) /\ X.cell? ⟨w.heap.size, 1, none⟩ = some (.bool b1) /\ X.cell? ⟨w.heap.size, 2, none⟩ = some (.bool b2) /\ X.cell? ⟨w.heap.size, 3, none⟩ = some (.int .i64 o) /\ X.cell? ⟨w.heap.size, 4, none⟩ = some (.int .u64 m) /\ X.cell? ⟨w.heap.size, 5, none⟩ = some (.int .u64 v) /\ Kn w ⟨b0, b1, b2, o, m, v⟩ X) W -> Calls Tryz.prog 184 #[] W fun e w' => e = .returned (.agg #[.bool false, .bool true, .bool false, .int .i64 0, .int .u64 0, .int .u64 0]) /\ (fun X => X.cell? ⟨w.heap.size, 0, none⟩ = some (.bool b0) /\ X.cell? ⟨w.heap.size, 1, none⟩ = some (.bool b1) /\ X.cell? ⟨w.heap.size, 2, none⟩ = some (.bool b2) /\ X.cell? ⟨w.heap.size, 3, none⟩ = some (.int .i64 o) /\ X.cell? ⟨w.heap.size, 4, none⟩ = some (.int .u64 m) /\ X.cell? ⟨w.heap.size, 5, none⟩ = some (.int .u64 v) /\ Kn w ⟨b0, b1, b2, o, m, v⟩ X) w') := fun W hS => (never_any W).mono fun e w' h => ⟨h.1, (hS.2.2.2.2.2.2.over h.2).all⟩
 have hq : ∀ W : World, (Op.equalIn 10000 239 (.agg #[.bool b0, .bool b1, .bool b2, .int .i64 o, .int .u64 m, .int .u64 v]) (.agg #[.bool true, .bool false, .bool false, .int .i64 0, .int .u64 0, .int .u64 0])).run Tryz.prog W = .ok false W := fun W => (equalIn_no ⟨b0, b1, b2, o, m, v⟩ always W).trans (by rw [ha])
 have hq2 : ∀ W : World, (Op.equalIn 10000 239 (.agg #[.bool b0, .bool b1, .bool b2, .int .i64 o, .int .u64 m, .int .u64 v]) (.agg #[.bool false, .bool true, .bool false, .int .i64 0, .int .u64 0, .int .u64 0])).run Tryz.prog W = .ok false W := fun W => (equalIn_no ⟨b0, b1, b2, o, m, v⟩ never W).trans (by rw [hn])
 have HKn : Hid (∀ X, (fun X => X.cell? ⟨w.heap.size, 0, none⟩ = some (.bool b0) /\ X.cell? ⟨w.heap.size, 1, none⟩ = some (.bool b1) /\ X.cell? ⟨w.heap.size, 2, none⟩ = some (.bool b2) /\ X.cell? ⟨w.heap.size, 3, none⟩ = some (.int .i64 o) /\ X.cell? ⟨w.heap.size, 4, none⟩ = some (.int .u64 m) /\ X.cell? ⟨w.heap.size, 5, none⟩ = some (.int .u64 v) /\ Kn w ⟨b0, b1, b2, o, m, v⟩ X) X -> Kn w ⟨b0, b1, b2, o, m, v⟩ X) := fun X h => h.2.2.2.2.2.2
 have HKd : Hid (∀ X, Kn w ⟨b0, b1, b2, o, m, v⟩ X -> (fun X => X.cell? ⟨w.heap.size, 0, none⟩ = some (.bool b0) /\ X.cell? ⟨w.heap.size, 1, none⟩ = some (.bool b1) /\ X.cell? ⟨w.heap.size, 2, none⟩ = some (.bool b2) /\ X.cell? ⟨w.heap.size, 3, none⟩ = some (.int .i64 o) /\ X.cell? ⟨w.heap.size, 4, none⟩ = some (.int .u64 m) /\ X.cell? ⟨w.heap.size, 5, none⟩ = some (.int .u64 v) /\ Kn w ⟨b0, b1, b2, o, m, v⟩ X) X.drew) := fun X h => (h.over (Below.refl _ _).drew).all
 dsimp only at HA HN HKn HKd hS0
 clear ha hn
 go_enter Tryz.func188, Tryz.ntmps188
 go_wp2
 go_region_held3 (fun X => X.cell? ⟨w.heap.size, 0, none⟩ = some (.bool b0) /\ X.cell? ⟨w.heap.size, 1, none⟩ = some (.bool b1) /\ X.cell? ⟨w.heap.size, 2, none⟩ = some (.bool b2) /\ X.cell? ⟨w.heap.size, 3, none⟩ = some (.int .i64 o) /\ X.cell? ⟨w.heap.size, 4, none⟩ = some (.int .u64 m) /\ X.cell? ⟨w.heap.size, 5, none⟩ = some (.int .u64 v) /\ Kn w ⟨b0, b1, b2, o, m, v⟩ X) (first | assumption | go_keep) (first | (go_at_call 195; refine (HA.out _ (by assumption)).mono ?_; rintro e w5 ⟨rfl, hS5⟩))
 all_goals
  have hS1 := HKd.out _ (HKn.out _ (by assumption))
  clear hS0
  go_wp2
  go_region_held3 (fun X => X.cell? ⟨w.heap.size, 0, none⟩ = some (.bool b0) /\ X.cell? ⟨w.heap.size, 1, none⟩ = some (.bool b1) /\ X.cell? ⟨w.heap.size, 2, none⟩ = some (.bool b2) /\ X.cell? ⟨w.heap.size, 3, none⟩ = some (.int .i64 o) /\ X.cell? ⟨w.heap.size, 4, none⟩ = some (.int .u64 m) /\ X.cell? ⟨w.heap.size, 5, none⟩ = some (.int .u64 v) /\ Kn w ⟨b0, b1, b2, o, m, v⟩ X) (first | assumption | go_keep) (first | (go_at_call 184; refine (HN.out _ (by assumption)).mono ?_; rintro e w6 ⟨rfl, hS6⟩))
  all_goals
   have hk : Hid (Kn w ⟨b0, b1, b2, o, m, v⟩ _) := HKn.out _ (by assumption)
   have c2 := hk.out.1.cell 2
   have f2 := hk.out.1.f 2
   go_wp2_with (first | (refine at_op (.load 239 (.tmp 1)) rfl ?_; refine wpList_load_row rfl 239 (.tmp 1) rfl w.heap.size rfl 239 (No.mk b0 b1 (!b2) o m v).cells.toArray (0, 0) _ (hk.out.1.set 2 (.bool (!b2))) Tryz.underlying239 rfl (no_size _) ?_) | (refine at_op (.store 239 (.tmp 2) (.tmp 15)) rfl ?_; refine wpList_store_row rfl 239 (.tmp 2) (.tmp 15) rfl (w.heap.size + 1) (No.mk b0 b1 (!b2) o m v).cells.toArray rfl rfl 239 _ (hk.out.2.1.other ⟨w.heap.size, 2, none⟩ (.bool (!b2)) (Nat.succ_ne_self _)) (no_size _) rfl (no_one _) ?_))
   refine bodyPost_ret (v := (No.mk b0 b1 (!b2) o m v).val) ?_ rfl ⟨rfl, ?_⟩
   ·exact results_cell_row Tryz.results188 _ _ (w.heap.size + 1) 239 (No.mk b0 b1 (!b2) o m v).cells.toArray (0, 0) _ rfl (Blk.row (hk.out.2.1.other ⟨w.heap.size, 2, none⟩ (.bool (!b2)) (Nat.succ_ne_self _)) _) Tryz.underlying239 rfl (no_size _)
   ·exact below_setRow (hk.out.2.2.setCell (p := ⟨w.heap.size, 2, none⟩) (Nat.le_refl _) _) (Nat.le_succ _) _
theorem turned_any (n : No) (w : World) :
  Calls Tryz.prog 188 #[n.val] w fun e w' => e = .returned (turn n).val /\ Below w.heap.size w w' := by
 unfold turn
 by_cases ha : n.same always = true
 ·rw [if_pos ha]
  obtain rfl := (No.same_iff _ _).1 ha
  exact turned_always w
 ·rw [if_neg ha]
  by_cases hn : n.same never = true
  ·rw [if_pos hn]
   obtain rfl := (No.same_iff _ _).1 hn
   exact turned_never w
  ·rw [if_neg hn]
   obtain ⟨b0, b1, b2, o, m, v⟩ := n
   exact turned_plain b0 b1 b2 o m v w (by simpa using ha) (by simpa using hn)
def Kc (w : World) (l : List Value) (t : TypeId) (r : List Value) (X : World) : Prop := Blk X w.heap.size 139 l /\ Blk X (w.heap.size + 1) t r /\ Below w.heap.size w X
theorem Kc.over {w X Y : World} {l r : List Value} {t : TypeId} (h : Kc w l t r X) (hb : Below X.heap.size X Y) : Kc w l t r Y := ⟨h.1.over hb, h.2.1.over hb, h.2.2.trans (hb.mono h.2.2.size)⟩
theorem kc_new (w : World) (l r : List Value) (t : TypeId) : Kc w l t r ((w.alloc (Obj.cells l.toArray 139)).alloc (Obj.cells r.toArray t)) :=
 ⟨(blk_new w _ 139).alloc _, blk_new' w _ _ t, room_below w _ _⟩
theorem Kc.set {w X : World} {l r : List Value} {t : TypeId} (h : Kc w l t r X) (i : Nat) (x : Value) : Kc w (l.set i x) t r (X.setCell ⟨w.heap.size, i, none⟩ x) :=
 ⟨h.1.set i x, h.2.1.other ⟨w.heap.size, i, none⟩ x (Nat.succ_ne_self _), h.2.2.setCell (p := ⟨w.heap.size, i, none⟩) (Nat.le_refl _) x⟩
end Go.Proofs.YtcckipimfgmmdaaGreatDoor.C
