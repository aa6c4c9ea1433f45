/-
  Conditions, and whether forms hold.
-/
import Derived.Test.YtpojlfenmanehaaGreatRows
import Derived.Laws.BitsAllLaws
import Derived.WalkKit
import Derived.WalkSpells
import Derived.WalkLawsBesides
import Derived.Laws.MakeOwn
import Derived.Laws.OwnMore
import Derived.Laws.Rows
import Derived.Laws.Tables
import Derived.Laws.CopyOwn
import Derived.Laws.StructEq
import Derived.Laws.EntriesVeiled
namespace Go.Proofs.YtpojlfenmanehaaGreat.C

/-- numbers of 32 bits, and of 64. -/
def U32 (x : Int) : Prop := 0 ≤ x ∧ x ≤ 4294967295
def U64 (x : Int) : Prop := 0 ≤ x ∧ x ≤ 18446744073709551615

/-- may a condition be? -/
def rightB (a o : Int) : Bool := decide (0 ≤ a) && decide (a < 6) && decide (1 ≤ o) && decide (o ≤ 6)

/-- are a value and another one as an op says? -/
def heldB (o x v : Int) : Bool :=
  if (o == 1) = true then x == v else if (o == 2) = true then !(x == v) else if (o == 3) = true then decide (x < v) else if (o == 4) = true then decide (x ≤ v) else if (o == 5) = true then decide (v < x) else o == 6 && decide (v ≤ x)

/-- a number's bits of a mask. -/
def an (x m : Int) : Int := bits BinOp.and IntKind.u64 x m

/-- the op that holds where another one does not. -/
def opp (o : Int) : Int := if o = 1 then 2 else if o = 2 then 1 else if o = 3 then 6 else if o = 4 then 5 else if o = 5 then 4 else if o = 6 then 3 else 0

/-- does an op stand in forms? -/
def hasF (o : Int) : Bool := o == 1 || o == 5 || o == 6

/-- a condition in one form. -/
structure No where
  al : Bool
  ne : Bool
  no : Bool
  o : Int
  m : Int
  v : Int

def No.same (x y : No) : Bool := x.al == y.al && x.ne == y.ne && x.no == y.no && x.o == y.o && x.m == y.m && x.v == y.v

theorem No.same_iff (x y : No) : x.same y = true ↔ x = y := by
  obtain ⟨a, b, c, d, e, f⟩ := x
  obtain ⟨a', b', c', d', e', f'⟩ := y
  simp [No.same, and_assoc]
theorem No.same_self (x : No) : x.same x = true := (No.same_iff x x).2 rfl

def always : No := ⟨true, false, false, 0, 0, 0⟩
def never : No := ⟨false, true, false, 0, 0, 0⟩

/-- has a number a bit that a mask has not? -/
def outB (v m : Int) : Bool := !(bits BinOp.andNot IntKind.u64 v m == 0)

/-- the form of a condition whose op stands in forms. -/
def formN (o m v : Int) : No :=
  if ((o == 1 && outB v m) || (o == 5 && decide (m ≤ v)) || (o == 6 && decide (m < v))) = true then never
  else if (o == 6 && v == 0) = true then always
  else ⟨false, false, false, o, m, v⟩

/-- a form that is turned about. -/
def turn (n : No) : No := if n.same always = true then never else if n.same never = true then always else ⟨n.al, n.ne, !n.no, n.o, n.m, n.v⟩

/-- a condition's form. -/
def normN (a o m v : Int) : No := if rightB a o = true then (if hasF o = true then formN o m v else turn (formN (opp o) m v)) else never

/-- does a form hold of a number? -/
def isN (n : No) (x : Int) : Bool := if (n.al || n.ne) = true then n.al else !((hasF n.o && heldB n.o (an x n.m) n.v) == n.no)

/-- does a condition hold of a number? -/
def holdN (a o m v x : Int) : Bool := rightB a o && heldB o (an x m) v

/-- what Not tells. -/
def notE (a o : Int) : Int := if rightB a o = true then 0 else 1

theorem right_bd {a o : Int} (h : rightB a o = true) : 0 ≤ a ∧ a < 6 ∧ 1 ≤ o ∧ o ≤ 6 := by
  simp only [rightB, Bool.and_eq_true, decide_eq_true_eq] at h
  omega

theorem six {o : Int} (h1 : 1 ≤ o) (h6 : o ≤ 6) : o = 1 ∨ o = 2 ∨ o = 3 ∨ o = 4 ∨ o = 5 ∨ o = 6 := by omega

theorem opp_bd {o : Int} (h1 : 1 ≤ o) (h6 : o ≤ 6) : 1 ≤ opp o ∧ opp o ≤ 6 := by
  rcases six h1 h6 with rfl | rfl | rfl | rfl | rfl | rfl <;> decide

theorem opp_opp {o : Int} (h1 : 1 ≤ o) (h6 : o ≤ 6) : opp (opp o) = o := by
  rcases six h1 h6 with rfl | rfl | rfl | rfl | rfl | rfl <;> decide

theorem right_opp {a o : Int} (h : rightB a o = true) : rightB a (opp o) = true := by
  obtain ⟨h1, h2, h3, h4⟩ := right_bd h
  obtain ⟨h5, h6⟩ := opp_bd h3 h4
  simp [rightB, h1, h2, h5, h6]

theorem held_opp {o : Int} (h1 : 1 ≤ o) (h6 : o ≤ 6) (x v : Int) : heldB (opp o) x v = !heldB o x v := by
  rcases six h1 h6 with rfl | rfl | rfl | rfl | rfl | rfl
  all_goals simp [heldB, opp]
  all_goals rw [Bool.eq_iff_iff]
  all_goals simp only [Bool.not_eq_true', decide_eq_true_eq, decide_eq_false_iff_not]
  all_goals omega

theorem nat_of {x : Int} (h : U64 x) : ∃ n : Nat, x = n ∧ n < 18446744073709551616 := by
  obtain ⟨h0, h1⟩ := h
  obtain ⟨n, rfl⟩ := Int.eq_ofNat_of_zero_le h0
  exact ⟨n, rfl, by omega⟩

theorem an_nat (n m : Nat) (hn : n < 18446744073709551616) (hm : m < 18446744073709551616) : an n m = ((n &&& m : Nat) : Int) := u64_and_nat n m hn hm

theorem an_bd {x m : Int} (hx : U64 x) (hm : U64 m) : 0 ≤ an x m ∧ an x m ≤ m := by
  obtain ⟨n, rfl, hn⟩ := nat_of hx
  obtain ⟨k, rfl, hk⟩ := nat_of hm
  rw [an_nat n k hn hk]
  have := @Nat.and_le_right n k
  omega

theorem andNot_or (v m : Nat) (hv : v < 18446744073709551616) (hm : m < 18446744073709551616) : v &&& (18446744073709551615 - m) = 0 ↔ v ||| m = m := by
  have hb : ∀ i, (18446744073709551615 - m).testBit i = (decide (i < 64) && !m.testBit i) := by
    intro i
    have := Nat.testBit_two_pow_sub_succ (x := m) (n := 64) (by omega) i
    rw [← this]
    congr 1
    omega
  have hi : ∀ i, 64 ≤ i → v.testBit i = false := fun i h => Nat.testBit_lt_two_pow (Nat.lt_of_lt_of_le (show v < 2 ^ 64 by omega) (Nat.pow_le_pow_right (by omega) h))
  constructor
  · intro h
    apply Nat.eq_of_testBit_eq
    intro i
    have := congrArg (fun z => z.testBit i) h
    simp only [Nat.testBit_and, hb, Nat.zero_testBit] at this
    rw [Nat.testBit_or]
    by_cases h6 : i < 64
    · simp only [h6, decide_true, Bool.true_and] at this
      cases hx : v.testBit i <;> cases hy : m.testBit i <;> simp_all
    · rw [hi i (by omega), Bool.false_or]
  · intro h
    apply Nat.eq_of_testBit_eq
    intro i
    have := congrArg (fun z => z.testBit i) h
    simp only [Nat.testBit_or] at this
    rw [Nat.testBit_and, hb, Nat.zero_testBit]
    by_cases h6 : i < 64
    · simp only [h6, decide_true, Bool.true_and]
      cases hx : v.testBit i <;> cases hy : m.testBit i <;> simp_all
    · rw [hi i (by omega), Bool.false_and]

/-- the document's way to ask for a bit that a mask has not. -/
theorem out_or {v m : Int} (hv : U64 v) (hm : U64 m) : (!(bits BinOp.or IntKind.u64 v m == m)) = outB v m := by
  obtain ⟨n, rfl, hn⟩ := nat_of hv
  obtain ⟨k, rfl, hk⟩ := nat_of hm
  unfold outB
  rw [u64_andNot_nat n k hn hk, u64_or_nat n k hn hk]
  congr 1
  rw [Bool.eq_iff_iff, beq_iff_eq, beq_iff_eq, show (0 : Int) = ((0 : Nat) : Int) from rfl, Int.ofNat_inj, Int.ofNat_inj]
  exact (andNot_or n k hn hk).symm

/-- no value has a bit that its mask has not. -/
theorem out_ne {x v m : Int} (hx : U64 x) (hv : U64 v) (hm : U64 m) (h : outB v m = true) : (an x m == v) = false := by
  obtain ⟨l, rfl, hl⟩ := nat_of hx
  obtain ⟨n, rfl, hn⟩ := nat_of hv
  obtain ⟨k, rfl, hk⟩ := nat_of hm
  rw [← out_or ⟨by omega, by omega⟩ ⟨by omega, by omega⟩, u64_or_nat n k hn hk] at h
  rw [an_nat l k hl hk, beq_eq_false_iff_ne]
  intro e
  have e' : l &&& k = n := by omega
  subst e'
  have : (l &&& k) ||| k = k := by
    apply Nat.eq_of_testBit_eq
    intro i
    rw [Nat.testBit_or, Nat.testBit_and]
    cases l.testBit i <;> cases k.testBit i <;> rfl
  rw [this] at h
  simp at h

/-- bits that a mask has not do not matter. -/
theorem an_other {x y m : Int} (hx : U64 x) (hy : U64 y) (hm : U64 m) : an (bits BinOp.xor IntKind.u64 x (bits BinOp.andNot IntKind.u64 y m)) m = an x m ∧ U64 (bits BinOp.xor IntKind.u64 x (bits BinOp.andNot IntKind.u64 y m)) := by
  obtain ⟨l, rfl, hl⟩ := nat_of hx
  obtain ⟨n, rfl, hn⟩ := nat_of hy
  obtain ⟨k, rfl, hk⟩ := nat_of hm
  have h1 : n &&& (18446744073709551615 - k) < 2 ^ 64 := Nat.lt_of_le_of_lt Nat.and_le_left (by omega)
  have h2 : l ^^^ (n &&& (18446744073709551615 - k)) < 2 ^ 64 := Nat.xor_lt_two_pow (by omega) h1
  rw [u64_andNot_nat n k hn hk, u64_xor_nat l _ hl (by omega), an_nat _ k (by omega) hk, an_nat l k hl hk]
  refine ⟨?_, by unfold U64; omega⟩
  rw [Int.ofNat_inj]
  have hb : ∀ i, (18446744073709551615 - k).testBit i = (decide (i < 64) && !k.testBit i) := by
    intro i
    have := Nat.testBit_two_pow_sub_succ (x := k) (n := 64) (by omega) i
    rw [← this]
    congr 1
    omega
  apply Nat.eq_of_testBit_eq
  intro i
  rw [Nat.testBit_and, Nat.testBit_and, Nat.testBit_xor, Nat.testBit_and, hb]
  cases l.testBit i <;> cases k.testBit i <;> cases n.testBit i <;> simp

/-- the form of a condition whose op stands in forms holds where the condition does. -/
theorem form_is {o m v x : Int} (ho : hasF o = true) (hx : U64 x) (hv : U64 v) (hm : U64 m) : isN (formN o m v) x = heldB o (an x m) v := by
  obtain ⟨a0, a1⟩ := an_bd hx hm
  have hvv := hv.1
  have hcase : o = 1 ∨ o = 5 ∨ o = 6 := by simpa [hasF, or_assoc] using ho
  rcases hcase with rfl | rfl | rfl
  · by_cases h : outB v m = true
    · have := out_ne hx hv hm h
      simp [formN, h, isN, never, heldB, this]
    · simp [formN, h, isN, heldB, hasF]
  · by_cases h : m ≤ v
    · have : ¬ v < an x m := by omega
      simp [formN, h, isN, never, heldB]
      omega
    · simp [formN, h, isN, heldB, hasF]
  · by_cases h : m < v
    · simp [formN, h, isN, never, heldB]
      omega
    · by_cases h0 : v = 0
      · subst h0
        simp [formN, h, isN, always, heldB]
        omega
      · simp [formN, h, h0, isN, heldB, hasF]

theorem turn_is (n : No) (x : Int) (h : n = always ∨ n = never ∨ (n.al = false ∧ n.ne = false)) : isN (turn n) x = !isN n x := by
  rcases h with rfl | rfl | ⟨h1, h2⟩
  · rfl
  · rfl
  · have e1 : n.same always = false := by simp [No.same, always, h1]
    have e2 : n.same never = false := by simp [No.same, never, h2]
    unfold turn
    rw [e1, e2]
    simp only [Bool.false_eq_true, if_false, isN, h1, h2, Bool.or_self]
    cases (hasF n.o && heldB n.o (an x n.m) n.v) <;> cases n.no <;> rfl

theorem form_kinds (o m v : Int) : formN o m v = always ∨ formN o m v = never ∨ ((formN o m v).al = false ∧ (formN o m v).ne = false) := by
  unfold formN
  split
  · exact .inr (.inl rfl)
  · split
    · exact .inl rfl
    · exact .inr (.inr ⟨rfl, rfl⟩)

theorem opp_has {o : Int} (h1 : 1 ≤ o) (h6 : o ≤ 6) (h : hasF o = false) : hasF (opp o) = true := by
  rcases six h1 h6 with rfl | rfl | rfl | rfl | rfl | rfl <;> simp_all [hasF, opp]

/-- a condition's form holds where the condition does. -/
theorem norm_is {a o m v x : Int} (hr : rightB a o = true) (hx : U64 x) (hv : U64 v) (hm : U64 m) : isN (normN a o m v) x = heldB o (an x m) v := by
  obtain ⟨_, _, h3, h4⟩ := right_bd hr
  unfold normN
  rw [if_pos hr]
  by_cases ho : hasF o = true
  · rw [if_pos ho]
    exact form_is ho hx hv hm
  · rw [if_neg ho, turn_is _ _ (form_kinds _ _ _), form_is (opp_has h3 h4 (by simpa using ho)) hx hv hm, held_opp h3 h4, Bool.not_not]

theorem turn_kinds (n : No) (h : n = always ∨ n = never ∨ (n.al = false ∧ n.ne = false)) : turn n = always ∨ turn n = never ∨ ((turn n).al = false ∧ (turn n).ne = false) := by
  rcases h with rfl | rfl | ⟨h1, h2⟩
  · exact .inr (.inl rfl)
  · exact .inl rfl
  · have e1 : n.same always = false := by simp [No.same, always, h1]
    have e2 : n.same never = false := by simp [No.same, never, h2]
    unfold turn
    rw [e1, e2]
    exact .inr (.inr ⟨h1, h2⟩)

theorem norm_kinds (a o m v : Int) : normN a o m v = always ∨ normN a o m v = never ∨ ((normN a o m v).al = false ∧ (normN a o m v).ne = false) := by
  unfold normN
  split
  · split
    · exact form_kinds _ _ _
    · exact turn_kinds _ (form_kinds _ _ _)
  · exact .inr (.inl rfl)

end Go.Proofs.YtpojlfenmanehaaGreat.C

namespace Go.Proofs.YtpojlfenmanehaaGreat.C
open Go.RowKit

theorem Tryz.size54 : (Tryz.prog.info? 54).map (·.size) = some 4 := by kernel_rfl
theorem Tryz.size188 : (Tryz.prog.info? 188).map (·.size) = some 6 := by kernel_rfl
theorem Tryz.size41 : (Tryz.prog.info? 41).map (·.size) = some 9 := by kernel_rfl

theorem ret_int {k : IntKind} {a b : Int} (h : a = b) : Ending.returned (.int k a) = .returned (.int k b) := by rw [h]
theorem ret_bool {a b : Bool} (h : a = b) : Ending.returned (.bool a) = .returned (.bool b) := by rw [h]

theorem size_alloc' (w : World) (o : Obj) : (w.alloc o).heap.size = w.heap.size + 1 := by
  show (w.heap.push o).size = _
  simp

theorem below_drewN (w : World) (n : Nat) : Below w.heap.size w (w.drewN n) := by
  induction n with
  | zero => exact Below.refl _ _
  | succ n ih => exact ih.drew

/-- a block of cells that nobody froze. -/
def Blk (w : World) (b : Nat) (t : TypeId) (l : List Value) : Prop := w.heap[b]? = some (.cells l.toArray t (0, 0))

section
variable {w : World} {b : Nat} {t : TypeId} {l : List Value}
theorem Blk.cell (h : Blk w b t l) (i : Nat) : w.cell? ⟨b, i, none⟩ = l[i]? := by
  rw [cell_of_row w b i _ _ _ h]
  simp
theorem Blk.f (h : Blk w b t l) (i : Nat) : w.frozen? ⟨b, i, none⟩ = false := frozen_of_row w b i _ _ h
theorem Blk.lt (h : Blk w b t l) : b < w.heap.size := lt_of_block h
theorem Blk.below {w' : World} {B : Nat} (h : Blk w b t l) (hb : Below B w w') (hB : b < B) : Blk w' b t l := by unfold Blk; rw [hb.block b hB]; exact h
theorem Blk.over {w' : World} (h : Blk w b t l) (hb : Below w.heap.size w w') : Blk w' b t l := h.below hb h.lt
theorem Blk.drew (h : Blk w b t l) : Blk w.drew b t l := h
theorem Blk.set (h : Blk w b t l) (i : Nat) (v : Value) : Blk (w.setCell ⟨b, i, none⟩ v) b t (l.set i v) := by
  have := heap_setCell_same w b i _ _ v h
  unfold Blk
  rw [this]
  simp
theorem Blk.other (h : Blk w b t l) (a : Addr) (v : Value) (hne : b ≠ a.block) : Blk (w.setCell a v) b t l := by
  unfold Blk
  rw [heap_setCell_other w a b v hne]
  exact h
theorem Blk.row (h : Blk w b t l) (cs : Array Value) : Blk (w.setRow b cs) b t cs.toList := by
  unfold Blk
  rw [setRow_heap w b _ cs _ _ h]
theorem Blk.row_other (h : Blk w b t l) (g : Nat) (cs : Array Value) (hne : b ≠ g) : Blk (w.setRow g cs) b t l := by
  unfold Blk
  rw [setRow_other w g b cs hne]
  exact h
theorem Blk.alloc (h : Blk w b t l) (o : Obj) : Blk (w.alloc o) b t l := by
  unfold Blk
  have hb : Below w.heap.size w (w.alloc o) := (Below.refl _ _).alloc (Nat.le_refl _) _
  rw [hb.block b h.lt]
  exact h
end

theorem blk_new (w : World) (cs : Array Value) (t : TypeId) : Blk (w.alloc (Obj.cells cs t)) w.heap.size t cs.toList := by
  unfold Blk
  rw [heap_alloc_new]

theorem blk_new' (w : World) (o : Obj) (cs : Array Value) (t : TypeId) : Blk ((w.alloc o).alloc (Obj.cells cs t)) (w.heap.size + 1) t cs.toList := by
  have := blk_new (w.alloc o) cs t
  rw [size_alloc'] at this
  exact this

/-- an item of an array by value. -/
theorem index_row (t e : TypeId) (n : Nat) (ik k : IntKind) (ht : Tryz.prog.underlying t = some (.array n e)) (he : Tryz.prog.underlying e = some (.int k)) (hsz : ∀ w, (sizeOf e).run Tryz.prog w = .ok 1 w)
    (A : Array Value) (i : Nat) (x : Int) (hi : i < n) (hA : A[i]? = some (.int k x)) (W : World) : (Instr.index t (.agg A) (.int ik i)).run Tryz.prog W = .ok (.int k x) W := by
  have hc : (0 : Int) ≤ (i : Int) ∧ (i : Int) < (n : Int) := by omega
  simp [Instr.index, asIntOf, run_underlying ht, hsz, part, isAgg, run_underlying he, hc, hA]
  intro h
  omega


theorem below_new (w : World) (o : Obj) : Below w.heap.size w (w.alloc o) := (Below.refl _ _).alloc (Nat.le_refl _) _

/-- a form as cells, and as a value. -/
def No.cells (n : No) : List Value := [.bool n.al, .bool n.ne, .bool n.no, .int .i64 n.o, .int .u64 n.m, .int .u64 n.v]
def No.val (n : No) : Value := .agg n.cells.toArray

/-- are two conditions the same? -/
def sameC (a o m v a' o' m' v' : Int) : Bool := a == a' && o == o' && m == m' && v == v'

theorem sameC_self (a o m v : Int) : sameC a o m v a o m v = true := by simp [sameC]

theorem equalIn_co (a o m v a' o' m' v' : Int) (w : World) : (Op.equalIn 10000 54 (.agg #[.int .i64 a, .int .i64 o, .int .u64 m, .int .u64 v]) (.agg #[.int .i64 a', .int .i64 o', .int .u64 m', .int .u64 v'])).run Tryz.prog w = .ok (sameC a o m v a' o' m' v') w := by
  have u3 := Tryz.underlying3
  have a3 := Tryz.isAgg3
  have z3 := Tryz.sizeOf3
  have u22 := Tryz.underlying38
  have a22 := Tryz.isAgg38
  have z22 := Tryz.sizeOf38
  have hS : Tryz.prog.underlying 54 = some (.struct (Tryz.prog.fieldsOf 54)) := by kernel_rfl
  have hp : Tryz.prog.stoodInHeld 54 = false := by kernel_rfl
  rw [show (10000 : Nat) = 9999 + 1 from rfl, run_equalIn_agg w 9999 54 _ _ hS hp]
  simp only [Program.fieldsOf, Tryz.underlying54]
  go_simp
  unfold sameC
  by_cases h1 : a = a' <;> by_cases h2 : o = o' <;> by_cases h3 : m = m' <;> by_cases h4 : v = v' <;> simp [h1, h2, h3, h4]

theorem eql_co (a o m v a' o' m' v' : Int) (w : World) : (binOp .eql 54 (.agg #[.int .i64 a, .int .i64 o, .int .u64 m, .int .u64 v]) (.agg #[.int .i64 a', .int .i64 o', .int .u64 m', .int .u64 v'])).run Tryz.prog w = .ok (.bool (sameC a o m v a' o' m' v')) w := by
  rw [run_eql_struct, equalIn_co]
  rfl

theorem equalIn_no (x y : No) (w : World) : (Op.equalIn 10000 188 (.agg #[.bool x.al, .bool x.ne, .bool x.no, .int .i64 x.o, .int .u64 x.m, .int .u64 x.v]) (.agg #[.bool y.al, .bool y.ne, .bool y.no, .int .i64 y.o, .int .u64 y.m, .int .u64 y.v])).run Tryz.prog w = .ok (x.same y) w := by
  have u3 := Tryz.underlying3
  have a3 := Tryz.isAgg3
  have z3 := Tryz.sizeOf3
  have u4 := Tryz.underlying4
  have a4 := Tryz.isAgg4
  have z4 := Tryz.sizeOf4
  have u22 := Tryz.underlying38
  have a22 := Tryz.isAgg38
  have z22 := Tryz.sizeOf38
  have hS : Tryz.prog.underlying 188 = some (.struct (Tryz.prog.fieldsOf 188)) := by kernel_rfl
  have hp : Tryz.prog.stoodInHeld 188 = false := by kernel_rfl
  rw [show (10000 : Nat) = 9999 + 1 from rfl, run_equalIn_agg w 9999 188 _ _ hS hp]
  simp only [Program.fieldsOf, Tryz.underlying188]
  go_simp
  obtain ⟨b0, b1, b2, o, m, v⟩ := x
  obtain ⟨c0, c1, c2, o', m', v'⟩ := y
  unfold No.same
  dsimp only
  by_cases h1 : o = o' <;> by_cases h2 : m = m' <;> by_cases h3 : v = v' <;> cases b0 <;> cases c0 <;> cases b1 <;> cases c1 <;> cases b2 <;> cases c2 <;> simp [h1, h2, h3]

theorem eql_no (x y : No) (w : World) : (binOp .eql 188 (.agg #[.bool x.al, .bool x.ne, .bool x.no, .int .i64 x.o, .int .u64 x.m, .int .u64 x.v]) (.agg #[.bool y.al, .bool y.ne, .bool y.no, .int .i64 y.o, .int .u64 y.m, .int .u64 y.v])).run Tryz.prog w = .ok (.bool (x.same y)) w := by
  rw [run_eql_struct, equalIn_no]
  rfl

/-- a call: its number, the architecture, where it stands, its arguments. -/
structure Da where
  n : Int
  a : Int
  p : Int
  g : List Int

/-- what a call's fields may be. -/
def Da.ok (d : Da) : Prop := U32 d.n ∧ U32 d.a ∧ U64 d.p ∧ d.g.length = 6 ∧ ∀ z ∈ d.g, U64 z

def Da.cells (d : Da) : List Value := .int .u32 d.n :: .int .u32 d.a :: .int .u64 d.p :: d.g.map (Value.int .u64)
def Da.val (d : Da) : Value := .agg d.cells.toArray

theorem Da.cells_len (d : Da) (h : d.ok) : d.cells.length = 9 := by simp [Da.cells, h.2.2.2.1]
theorem Da.cells_one (d : Da) : d.cells.toArray.all (·.oneCell') = true := by
  simp [Da.cells, Value.oneCell']
theorem Da.size (d : Da) (h : d.ok) : (Tryz.prog.info? 41).map (·.size) = some d.cells.toArray.size := by rw [Tryz.size41]; simp [d.cells_len h]

/-- an argument of a call. -/
theorem Da.arg (d : Da) (h : d.ok) (k : Nat) (hk : k < 6) : d.cells[3 + k]? = some (.int .u64 (d.g.getD k 0)) ∧ U64 (d.g.getD k 0) := by
  have hl := h.2.2.2.1
  have e : d.g[k]? = some (d.g.getD k 0) := by
    rw [List.getD_eq_getElem?_getD, List.getElem?_eq_getElem (show k < d.g.length by omega)]
    rfl
  refine ⟨?_, h.2.2.2.2 _ (List.mem_of_getElem? e)⟩
  rw [Nat.add_comm]
  unfold Da.cells
  rw [List.getElem?_cons_succ, List.getElem?_cons_succ, List.getElem?_cons_succ, List.getElem?_map, e]
  rfl

end Go.Proofs.YtpojlfenmanehaaGreat.C

namespace Go.Proofs.YtpojlfenmanehaaGreat.C
open Go.RowKit

theorem right_any (a o m v : Int) (w : World) :
    Calls Tryz.prog 103 #[.agg #[.int .i64 a, .int .i64 o, .int .u64 m, .int .u64 v]] w fun e w' => e = .returned (.bool (rightB a o)) ∧ Below w.heap.size w w' := by
  have HB : Hid (∀ o, Below w.heap.size w (w.alloc o)) := below_new w
  go_enter Tryz.func103, Tryz.ntmps103
  go_wp2
  all_goals (go_ret; exact ⟨ret_bool (by simp [rightB, *] <;> omega), HB.out _⟩)

theorem refRight_any (a o m v : Int) (w : World) :
    Calls Tryz.prog 41 #[.agg #[.int .i64 a, .int .i64 o, .int .u64 m, .int .u64 v]] w fun e w' => e = .returned (.bool (rightB a o)) ∧ Below w.heap.size w w' := by
  have HB : Hid (∀ o, Below w.heap.size w (w.alloc o)) := below_new w
  go_enter Tryz.func41, Tryz.ntmps41
  go_wp2
  all_goals (go_ret; exact ⟨ret_bool (by simp [rightB, *] <;> omega), HB.out _⟩)

theorem hasForm_any (o : Int) (w : World) :
    Calls Tryz.prog 166 #[.int .i64 o] w fun e w' => e = .returned (.bool (hasF o)) ∧ w' = w := by
  go_enter Tryz.func166, Tryz.ntmps166
  go_wp2
  all_goals (go_ret; exact ⟨ret_bool (by simp [hasF, *]), rfl⟩)

theorem refHeld_any (o x v : Int) (w : World) :
    Calls Tryz.prog 144 #[.int .i64 o, .int .u64 x, .int .u64 v] w fun e w' => e = .returned (.bool (heldB o x v)) ∧ w' = w := by
  go_enter Tryz.func144, Tryz.ntmps144
  go_wp2
  all_goals (go_ret; exact ⟨ret_bool (by simp [heldB, *] <;> rfl), rfl⟩)

theorem never_any (w : World) :
    Calls Tryz.prog 165 #[] w fun e w' => e = .returned never.val ∧ Below w.heap.size w w' := by
  have HB : Hid (∀ o, Below w.heap.size w (w.alloc o)) := below_new w
  go_enter Tryz.func165, Tryz.ntmps165
  go_wp2
  refine bodyPost_ret (v := never.val) (by simp [results, Tryz.results165, go_sem, never, No.val, No.cells]) rfl ⟨rfl, ?_⟩
  exact HB.out _

theorem always_any (w : World) :
    Calls Tryz.prog 174 #[] w fun e w' => e = .returned always.val ∧ Below w.heap.size w w' := by
  have HB : Hid (∀ o, Below w.heap.size w (w.alloc o)) := below_new w
  go_enter Tryz.func174, Tryz.ntmps174
  go_wp2
  refine bodyPost_ret (v := always.val) (by simp [results, Tryz.results174, go_sem, always, No.val, No.cells]) rfl ⟨rfl, ?_⟩
  exact HB.out _

end Go.Proofs.YtpojlfenmanehaaGreat.C

namespace Go.Proofs.YtpojlfenmanehaaGreat.C
open Go.RowKit

theorem same_any (x v : Int) (w : World) : Calls Tryz.prog 158 #[.int .u64 x, .int .u64 v] w fun e w' => e = .returned (.bool (heldB 1 x v)) ∧ w' = w := by
  go_enter Tryz.func158, Tryz.ntmps158
  go_wp2
  go_ret
  exact ⟨ret_bool (by simp [heldB]), rfl⟩

theorem differs_any (x v : Int) (w : World) : Calls Tryz.prog 159 #[.int .u64 x, .int .u64 v] w fun e w' => e = .returned (.bool (heldB 2 x v)) ∧ w' = w := by
  go_enter Tryz.func159, Tryz.ntmps159
  go_wp2
  go_ret
  exact ⟨rfl, rfl⟩

theorem less_any (x v : Int) (w : World) : Calls Tryz.prog 160 #[.int .u64 x, .int .u64 v] w fun e w' => e = .returned (.bool (heldB 3 x v)) ∧ w' = w := by
  go_enter Tryz.func160, Tryz.ntmps160
  go_wp2
  go_ret
  exact ⟨ret_bool (by simp [heldB]), rfl⟩

theorem atMost_any (x v : Int) (w : World) : Calls Tryz.prog 161 #[.int .u64 x, .int .u64 v] w fun e w' => e = .returned (.bool (heldB 4 x v)) ∧ w' = w := by
  go_enter Tryz.func161, Tryz.ntmps161
  go_wp2
  go_ret
  exact ⟨ret_bool (by simp [heldB]), rfl⟩

theorem greater_any (x v : Int) (w : World) : Calls Tryz.prog 162 #[.int .u64 x, .int .u64 v] w fun e w' => e = .returned (.bool (heldB 5 x v)) ∧ w' = w := by
  go_enter Tryz.func162, Tryz.ntmps162
  go_wp2
  go_ret
  exact ⟨ret_bool (by simp [heldB]), rfl⟩

theorem atLeast_any (x v : Int) (w : World) : Calls Tryz.prog 163 #[.int .u64 x, .int .u64 v] w fun e w' => e = .returned (.bool (heldB 6 x v)) ∧ w' = w := by
  go_enter Tryz.func163, Tryz.ntmps163
  go_wp2
  go_ret
  exact ⟨ret_bool (by simp [heldB]), rfl⟩

theorem comparisons_any (w : World) :
    Calls Tryz.prog 146 #[] w fun e w' => e = .returned (.agg #[.nilFunc, .func (.func 158) #[] #[], .func (.func 159) #[] #[], .func (.func 160) #[] #[], .func (.func 161) #[] #[], .func (.func 162) #[] #[], .func (.func 163) #[] #[]]) ∧ Below w.heap.size w w' := by
  have HB : Hid (∀ o, Below w.heap.size w (w.alloc o)) := below_new w
  go_enter Tryz.func146, Tryz.ntmps146
  go_wp2
  refine bodyPost_ret (v := .agg #[.nilFunc, .func (.func 158) #[] #[], .func (.func 159) #[] #[], .func (.func 160) #[] #[], .func (.func 161) #[] #[], .func (.func 162) #[] #[], .func (.func 163) #[] #[]]) (by simp [results, Tryz.results146, go_sem]) rfl ⟨rfl, ?_⟩
  exact HB.out _

theorem opposite_any (o : Int) (w : World) (h1 : 1 ≤ o) (h6 : o ≤ 6) :
    Calls Tryz.prog 168 #[.int .i64 o] w fun e w' => e = .returned (.int .i64 (opp o)) ∧ Below w.heap.size w w' := by
  have HB : Hid (∀ o, Below w.heap.size w (w.alloc o)) := below_new w
  rcases six h1 h6 with rfl | rfl | rfl | rfl | rfl | rfl
  all_goals
    go_enter Tryz.func168, Tryz.ntmps168
    go_wp2
    go_ret
    exact ⟨rfl, HB.out _⟩

theorem held_any (o x m v : Int) (w : World) (h1 : 1 ≤ o) (h6 : o ≤ 6) :
    Calls Tryz.prog 125 #[.int .i64 o, .int .u64 x, .int .u64 m, .int .u64 v] w fun e w' => e = .returned (.bool (heldB o (an x m) v)) ∧ Below w.heap.size w w' := by
  have HC : Hid (∀ W : World, Calls Tryz.prog 146 #[] W fun e w' => e = .returned (.agg #[.nilFunc, .func (.func 158) #[] #[], .func (.func 159) #[] #[], .func (.func 160) #[] #[], .func (.func 161) #[] #[], .func (.func 162) #[] #[], .func (.func 163) #[] #[]]) ∧ Below W.heap.size W w') := comparisons_any
  have ea : bits BinOp.and IntKind.u64 x m = an x m := rfl
  have G1 : Hid (∀ W : World, Calls Tryz.prog 158 #[.int .u64 (an x m), .int .u64 v] W fun e w' => e = .returned (.bool (heldB 1 (an x m) v)) ∧ w' = W) := fun W => same_any _ _ W
  have G2 : Hid (∀ W : World, Calls Tryz.prog 159 #[.int .u64 (an x m), .int .u64 v] W fun e w' => e = .returned (.bool (heldB 2 (an x m) v)) ∧ w' = W) := fun W => differs_any _ _ W
  have G3 : Hid (∀ W : World, Calls Tryz.prog 160 #[.int .u64 (an x m), .int .u64 v] W fun e w' => e = .returned (.bool (heldB 3 (an x m) v)) ∧ w' = W) := fun W => less_any _ _ W
  have G4 : Hid (∀ W : World, Calls Tryz.prog 161 #[.int .u64 (an x m), .int .u64 v] W fun e w' => e = .returned (.bool (heldB 4 (an x m) v)) ∧ w' = W) := fun W => atMost_any _ _ W
  have G5 : Hid (∀ W : World, Calls Tryz.prog 162 #[.int .u64 (an x m), .int .u64 v] W fun e w' => e = .returned (.bool (heldB 5 (an x m) v)) ∧ w' = W) := fun W => greater_any _ _ W
  have G6 : Hid (∀ W : World, Calls Tryz.prog 163 #[.int .u64 (an x m), .int .u64 v] W fun e w' => e = .returned (.bool (heldB 6 (an x m) v)) ∧ w' = W) := fun W => atLeast_any _ _ W
  generalize an x m = y at *
  rcases six h1 h6 with rfl | rfl | rfl | rfl | rfl | rfl
  · clear h1 h6 G2 G3 G4 G5 G6
    have hi : ∀ W : World, (Instr.index 177 (.agg #[.nilFunc, .func (.func 158) #[] #[], .func (.func 159) #[] #[], .func (.func 160) #[] #[], .func (.func 161) #[] #[], .func (.func 162) #[] #[], .func (.func 163) #[] #[]]) (.int .i64 1)).run Tryz.prog W = .ok (.func (.func 158) #[] #[]) W := fun W => by kernel_rfl
    go_enter Tryz.func125, Tryz.ntmps125
    go_wp2_with (first | (go_at_call 146; refine (HC.out _).mono ?_; rintro e w1 ⟨rfl, b1⟩) | (go_at_call 158; refine (G1.out _).mono ?_; rintro e w2 ⟨rfl, rfl⟩))
    go_ret
    exact ⟨rfl, b1⟩
  · clear h1 h6 G1 G3 G4 G5 G6
    have hi : ∀ W : World, (Instr.index 177 (.agg #[.nilFunc, .func (.func 158) #[] #[], .func (.func 159) #[] #[], .func (.func 160) #[] #[], .func (.func 161) #[] #[], .func (.func 162) #[] #[], .func (.func 163) #[] #[]]) (.int .i64 2)).run Tryz.prog W = .ok (.func (.func 159) #[] #[]) W := fun W => by kernel_rfl
    go_enter Tryz.func125, Tryz.ntmps125
    go_wp2_with (first | (go_at_call 146; refine (HC.out _).mono ?_; rintro e w1 ⟨rfl, b1⟩) | (go_at_call 159; refine (G2.out _).mono ?_; rintro e w2 ⟨rfl, rfl⟩))
    go_ret
    exact ⟨rfl, b1⟩
  · clear h1 h6 G1 G2 G4 G5 G6
    have hi : ∀ W : World, (Instr.index 177 (.agg #[.nilFunc, .func (.func 158) #[] #[], .func (.func 159) #[] #[], .func (.func 160) #[] #[], .func (.func 161) #[] #[], .func (.func 162) #[] #[], .func (.func 163) #[] #[]]) (.int .i64 3)).run Tryz.prog W = .ok (.func (.func 160) #[] #[]) W := fun W => by kernel_rfl
    go_enter Tryz.func125, Tryz.ntmps125
    go_wp2_with (first | (go_at_call 146; refine (HC.out _).mono ?_; rintro e w1 ⟨rfl, b1⟩) | (go_at_call 160; refine (G3.out _).mono ?_; rintro e w2 ⟨rfl, rfl⟩))
    go_ret
    exact ⟨rfl, b1⟩
  · clear h1 h6 G1 G2 G3 G5 G6
    have hi : ∀ W : World, (Instr.index 177 (.agg #[.nilFunc, .func (.func 158) #[] #[], .func (.func 159) #[] #[], .func (.func 160) #[] #[], .func (.func 161) #[] #[], .func (.func 162) #[] #[], .func (.func 163) #[] #[]]) (.int .i64 4)).run Tryz.prog W = .ok (.func (.func 161) #[] #[]) W := fun W => by kernel_rfl
    go_enter Tryz.func125, Tryz.ntmps125
    go_wp2_with (first | (go_at_call 146; refine (HC.out _).mono ?_; rintro e w1 ⟨rfl, b1⟩) | (go_at_call 161; refine (G4.out _).mono ?_; rintro e w2 ⟨rfl, rfl⟩))
    go_ret
    exact ⟨rfl, b1⟩
  · clear h1 h6 G1 G2 G3 G4 G6
    have hi : ∀ W : World, (Instr.index 177 (.agg #[.nilFunc, .func (.func 158) #[] #[], .func (.func 159) #[] #[], .func (.func 160) #[] #[], .func (.func 161) #[] #[], .func (.func 162) #[] #[], .func (.func 163) #[] #[]]) (.int .i64 5)).run Tryz.prog W = .ok (.func (.func 162) #[] #[]) W := fun W => by kernel_rfl
    go_enter Tryz.func125, Tryz.ntmps125
    go_wp2_with (first | (go_at_call 146; refine (HC.out _).mono ?_; rintro e w1 ⟨rfl, b1⟩) | (go_at_call 162; refine (G5.out _).mono ?_; rintro e w2 ⟨rfl, rfl⟩))
    go_ret
    exact ⟨rfl, b1⟩
  · clear h1 h6 G1 G2 G3 G4 G5
    have hi : ∀ W : World, (Instr.index 177 (.agg #[.nilFunc, .func (.func 158) #[] #[], .func (.func 159) #[] #[], .func (.func 160) #[] #[], .func (.func 161) #[] #[], .func (.func 162) #[] #[], .func (.func 163) #[] #[]]) (.int .i64 6)).run Tryz.prog W = .ok (.func (.func 163) #[] #[]) W := fun W => by kernel_rfl
    go_enter Tryz.func125, Tryz.ntmps125
    go_wp2_with (first | (go_at_call 146; refine (HC.out _).mono ?_; rintro e w1 ⟨rfl, b1⟩) | (go_at_call 163; refine (G6.out _).mono ?_; rintro e w2 ⟨rfl, rfl⟩))
    go_ret
    exact ⟨rfl, b1⟩

end Go.Proofs.YtpojlfenmanehaaGreat.C

namespace Go.Proofs.YtpojlfenmanehaaGreat.C
open Go.RowKit

theorem is_said (b0 b1 b2 : Bool) (o m v x : Int) (w : World) (h : (b0 || b1) = true) :
    Calls Tryz.prog 156 #[.agg #[.bool b0, .bool b1, .bool b2, .int .i64 o, .int .u64 m, .int .u64 v], .int .u64 x] w fun e w' => e = .returned (.bool b0) ∧ Below w.heap.size w w' := by
  have HB : Hid (∀ o, Below w.heap.size w (w.alloc o)) := below_new w
  have hb : b0 = true ∨ (b0 = false ∧ b1 = true) := by cases b0 <;> simp_all
  clear h
  rcases hb with rfl | ⟨rfl, rfl⟩
  all_goals
    go_enter Tryz.func156, Tryz.ntmps156
    go_wp2
    go_ret
    exact ⟨rfl, HB.out _⟩

set_option maxHeartbeats 400000 in
theorem is_has (b2 : Bool) (o m v x : Int) (w : World) (ho : hasF o = true) :
    Calls Tryz.prog 156 #[.agg #[.bool false, .bool false, .bool b2, .int .i64 o, .int .u64 m, .int .u64 v], .int .u64 x] w fun e w' => e = .returned (.bool (!(heldB o (an x m) v == b2))) ∧ Below w.heap.size w w' := by
  have HB : Hid (Blk (w.alloc (Obj.cells #[.bool false, .bool false, .bool b2, .int .i64 o, .int .u64 m, .int .u64 v] 188)) w.heap.size 188 [.bool false, .bool false, .bool b2, .int .i64 o, .int .u64 m, .int .u64 v]) := blk_new w _ 188
  have HB2 : Hid (Below w.heap.size w (w.alloc (Obj.cells #[.bool false, .bool false, .bool b2, .int .i64 o, .int .u64 m, .int .u64 v] 188))) := below_new w _
  have HH : Hid (∀ W : World, Calls Tryz.prog 166 #[.int .i64 o] W fun e w' => e = .returned (.bool true) ∧ w' = W) := fun W => ho ▸ hasForm_any o W
  have h16 : 1 ≤ o ∧ o ≤ 6 := by
    have hcase : o = 1 ∨ o = 5 ∨ o = 6 := by simpa [hasF, or_assoc] using ho
    omega
  have HL : Hid (∀ W : World, Calls Tryz.prog 125 #[.int .i64 o, .int .u64 x, .int .u64 m, .int .u64 v] W fun e w' => e = .returned (.bool (heldB o (an x m) v)) ∧ Below W.heap.size W w') := fun W => held_any o x m v W h16.1 h16.2
  clear ho h16
  generalize heldB o (an x m) v = q at *
  go_enter Tryz.func156, Tryz.ntmps156
  go_wp2_with (first | (go_at_call 166; refine (HH.out _).mono ?_; rintro e w1 ⟨rfl, rfl⟩) | (go_at_call 125; refine (HL.out _).mono ?_; rintro e w2 ⟨rfl, b2'⟩; have c2 := (HB.out.over b2').cell 2; have B2 : Hid (Below w.heap.size w w2) := HB2.out.trans (b2'.mono HB2.out.size); clear b2'))
  all_goals
    go_ret
    exact ⟨by cases q <;> cases b2 <;> rfl, B2.out⟩

set_option maxHeartbeats 400000 in
theorem is_none (b2 : Bool) (o m v x : Int) (w : World) (ho : hasF o = false) :
    Calls Tryz.prog 156 #[.agg #[.bool false, .bool false, .bool b2, .int .i64 o, .int .u64 m, .int .u64 v], .int .u64 x] w fun e w' => e = .returned (.bool (!(false == b2))) ∧ Below w.heap.size w w' := by
  have HB2 : Hid (Below w.heap.size w (w.alloc (Obj.cells #[.bool false, .bool false, .bool b2, .int .i64 o, .int .u64 m, .int .u64 v] 188))) := below_new w _
  have HH : Hid (∀ W : World, Calls Tryz.prog 166 #[.int .i64 o] W fun e w' => e = .returned (.bool false) ∧ w' = W) := fun W => ho ▸ hasForm_any o W
  clear ho
  go_enter Tryz.func156, Tryz.ntmps156
  go_wp2_with (first | (go_at_call 166; refine (HH.out _).mono ?_; rintro e w1 ⟨rfl, rfl⟩))
  all_goals
    go_ret
    exact ⟨by cases b2 <;> rfl, HB2.out⟩

theorem is_any (n : No) (x : Int) (w : World) :
    Calls Tryz.prog 156 #[n.val, .int .u64 x] w fun e w' => e = .returned (.bool (isN n x)) ∧ Below w.heap.size w w' := by
  obtain ⟨b0, b1, b2, o, m, v⟩ := n
  unfold isN
  by_cases h : (b0 || b1) = true
  · rw [if_pos h]
    exact is_said b0 b1 b2 o m v x w h
  · rw [if_neg h]
    obtain ⟨rfl, rfl⟩ : b0 = false ∧ b1 = false := by simpa using h
    by_cases ho : hasF o = true
    · dsimp only
      rw [ho, Bool.true_and]
      exact is_has b2 o m v x w ho
    · have ho' : hasF o = false := by simpa using ho
      dsimp only
      rw [ho', Bool.false_and]
      exact is_none b2 o m v x w ho'


end Go.Proofs.YtpojlfenmanehaaGreat.C

