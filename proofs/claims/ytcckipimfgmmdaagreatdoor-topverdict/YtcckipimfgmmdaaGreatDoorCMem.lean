/-
  Conditions, forms and calls as values and as blocks of their own; conditions and forms compared.
-/
import Derived.Test.YtcckipimfgmmdaaGreatDoorCMath
import Derived.WalkKit
import Derived.WalkSpells
import Derived.WalkLawsBesides
import Derived.Laws.MakeOwn
import Derived.Laws.OwnMore
import Derived.Laws.Rows
import Derived.Laws.Tables
import Derived.Laws.CopyOwn
import Derived.Laws.StructEq
namespace Go.Proofs.YtcckipimfgmmdaaGreatDoor.C
open Go.RowKit

theorem Tryz.size139 : (Tryz.prog.info? 139).map (·.size) = some 4 := by kernel_rfl
theorem Tryz.size239 : (Tryz.prog.info? 239).map (·.size) = some 6 := by kernel_rfl
theorem Tryz.size27 : (Tryz.prog.info? 27).map (·.size) = some 9 := by kernel_rfl

theorem ret_int {k : IntKind} {a b : Int} (h : a = b) : Ending.returned (.int k a) = .returned (.int k b) := by rw [h]
theorem ret_bool {a b : Bool} (h : a = b) : Ending.returned (.bool a) = .returned (.bool b) := by rw [h]

theorem size_alloc' (w : World) (o : Obj) : (w.alloc o).heap.size = w.heap.size + 1 := by
  show (w.heap.push o).size = _
  simp

theorem below_drewN (w : World) (n : Nat) : Below w.heap.size w (w.drewN n) := by
  induction n with
  | zero => exact Below.refl _ _
  | succ n ih => exact ih.drew

/-- a block of cells that nobody froze. -/
def Blk (w : World) (b : Nat) (t : TypeId) (l : List Value) : Prop := w.heap[b]? = some (.cells l.toArray t (0, 0))

section
variable {w : World} {b : Nat} {t : TypeId} {l : List Value}
theorem Blk.cell (h : Blk w b t l) (i : Nat) : w.cell? ⟨b, i, none⟩ = l[i]? := by
  rw [cell_of_row w b i _ _ _ h]
  simp
theorem Blk.f (h : Blk w b t l) (i : Nat) : w.frozen? ⟨b, i, none⟩ = false := frozen_of_row w b i _ _ h
theorem Blk.lt (h : Blk w b t l) : b < w.heap.size := lt_of_block h
theorem Blk.below {w' : World} {B : Nat} (h : Blk w b t l) (hb : Below B w w') (hB : b < B) : Blk w' b t l := by unfold Blk; rw [hb.block b hB]; exact h
theorem Blk.over {w' : World} (h : Blk w b t l) (hb : Below w.heap.size w w') : Blk w' b t l := h.below hb h.lt
theorem Blk.drew (h : Blk w b t l) : Blk w.drew b t l := h
theorem Blk.set (h : Blk w b t l) (i : Nat) (v : Value) : Blk (w.setCell ⟨b, i, none⟩ v) b t (l.set i v) := by
  have := heap_setCell_same w b i _ _ v h
  unfold Blk
  rw [this]
  simp
theorem Blk.other (h : Blk w b t l) (a : Addr) (v : Value) (hne : b ≠ a.block) : Blk (w.setCell a v) b t l := by
  unfold Blk
  rw [heap_setCell_other w a b v hne]
  exact h
theorem Blk.row (h : Blk w b t l) (cs : Array Value) : Blk (w.setRow b cs) b t cs.toList := by
  unfold Blk
  rw [setRow_heap w b _ cs _ _ h]
theorem Blk.row_other (h : Blk w b t l) (g : Nat) (cs : Array Value) (hne : b ≠ g) : Blk (w.setRow g cs) b t l := by
  unfold Blk
  rw [setRow_other w g b cs hne]
  exact h
theorem Blk.alloc (h : Blk w b t l) (o : Obj) : Blk (w.alloc o) b t l := by
  unfold Blk
  have hb : Below w.heap.size w (w.alloc o) := (Below.refl _ _).alloc (Nat.le_refl _) _
  rw [hb.block b h.lt]
  exact h
end

theorem blk_new (w : World) (cs : Array Value) (t : TypeId) : Blk (w.alloc (Obj.cells cs t)) w.heap.size t cs.toList := by
  unfold Blk
  rw [heap_alloc_new]

theorem blk_new' (w : World) (o : Obj) (cs : Array Value) (t : TypeId) : Blk ((w.alloc o).alloc (Obj.cells cs t)) (w.heap.size + 1) t cs.toList := by
  have := blk_new (w.alloc o) cs t
  rw [size_alloc'] at this
  exact this

/-- an item of an array by value. -/
theorem index_row (t e : TypeId) (n : Nat) (ik k : IntKind) (ht : Tryz.prog.underlying t = some (.array n e)) (he : Tryz.prog.underlying e = some (.int k)) (hsz : ∀ w, (sizeOf e).run Tryz.prog w = .ok 1 w)
    (A : Array Value) (i : Nat) (x : Int) (hi : i < n) (hA : A[i]? = some (.int k x)) (W : World) : (Instr.index t (.agg A) (.int ik i)).run Tryz.prog W = .ok (.int k x) W := by
  have hc : (0 : Int) ≤ (i : Int) ∧ (i : Int) < (n : Int) := by omega
  simp [Instr.index, asIntOf, run_underlying ht, hsz, part, isAgg, run_underlying he, hc, hA]
  intro h
  omega


theorem below_new (w : World) (o : Obj) : Below w.heap.size w (w.alloc o) := (Below.refl _ _).alloc (Nat.le_refl _) _

/-- a form as cells, and as a value. -/
def No.cells (n : No) : List Value := [.bool n.al, .bool n.ne, .bool n.no, .int .i64 n.o, .int .u64 n.m, .int .u64 n.v]
def No.val (n : No) : Value := .agg n.cells.toArray

/-- are two conditions the same? -/
def sameC (a o m v a' o' m' v' : Int) : Bool := a == a' && o == o' && m == m' && v == v'

theorem sameC_self (a o m v : Int) : sameC a o m v a o m v = true := by simp [sameC]

theorem equalIn_co (a o m v a' o' m' v' : Int) (w : World) : (Op.equalIn 10000 139 (.agg #[.int .i64 a, .int .i64 o, .int .u64 m, .int .u64 v]) (.agg #[.int .i64 a', .int .i64 o', .int .u64 m', .int .u64 v'])).run Tryz.prog w = .ok (sameC a o m v a' o' m' v') w := by
  have u3 := Tryz.underlying3
  have a3 := Tryz.isAgg3
  have z3 := Tryz.sizeOf3
  have u22 := Tryz.underlying24
  have a22 := Tryz.isAgg24
  have z22 := Tryz.sizeOf24
  have hS : Tryz.prog.underlying 139 = some (.struct (Tryz.prog.fieldsOf 139)) := by kernel_rfl
  have hp : Tryz.prog.stoodInHeld 139 = false := by kernel_rfl
  rw [show (10000 : Nat) = 9999 + 1 from rfl, run_equalIn_agg w 9999 139 _ _ hS hp]
  simp only [Program.fieldsOf, Tryz.underlying139]
  go_simp
  unfold sameC
  by_cases h1 : a = a' <;> by_cases h2 : o = o' <;> by_cases h3 : m = m' <;> by_cases h4 : v = v' <;> simp [h1, h2, h3, h4]

theorem eql_co (a o m v a' o' m' v' : Int) (w : World) : (binOp .eql 139 (.agg #[.int .i64 a, .int .i64 o, .int .u64 m, .int .u64 v]) (.agg #[.int .i64 a', .int .i64 o', .int .u64 m', .int .u64 v'])).run Tryz.prog w = .ok (.bool (sameC a o m v a' o' m' v')) w := by
  rw [run_eql_struct, equalIn_co]
  rfl

theorem equalIn_no (x y : No) (w : World) : (Op.equalIn 10000 239 (.agg #[.bool x.al, .bool x.ne, .bool x.no, .int .i64 x.o, .int .u64 x.m, .int .u64 x.v]) (.agg #[.bool y.al, .bool y.ne, .bool y.no, .int .i64 y.o, .int .u64 y.m, .int .u64 y.v])).run Tryz.prog w = .ok (x.same y) w := by
  have u3 := Tryz.underlying3
  have a3 := Tryz.isAgg3
  have z3 := Tryz.sizeOf3
  have u4 := Tryz.underlying4
  have a4 := Tryz.isAgg4
  have z4 := Tryz.sizeOf4
  have u22 := Tryz.underlying24
  have a22 := Tryz.isAgg24
  have z22 := Tryz.sizeOf24
  have hS : Tryz.prog.underlying 239 = some (.struct (Tryz.prog.fieldsOf 239)) := by kernel_rfl
  have hp : Tryz.prog.stoodInHeld 239 = false := by kernel_rfl
  rw [show (10000 : Nat) = 9999 + 1 from rfl, run_equalIn_agg w 9999 239 _ _ hS hp]
  simp only [Program.fieldsOf, Tryz.underlying239]
  go_simp
  obtain ⟨b0, b1, b2, o, m, v⟩ := x
  obtain ⟨c0, c1, c2, o', m', v'⟩ := y
  unfold No.same
  dsimp only
  by_cases h1 : o = o' <;> by_cases h2 : m = m' <;> by_cases h3 : v = v' <;> cases b0 <;> cases c0 <;> cases b1 <;> cases c1 <;> cases b2 <;> cases c2 <;> simp [h1, h2, h3]

theorem eql_no (x y : No) (w : World) : (binOp .eql 239 (.agg #[.bool x.al, .bool x.ne, .bool x.no, .int .i64 x.o, .int .u64 x.m, .int .u64 x.v]) (.agg #[.bool y.al, .bool y.ne, .bool y.no, .int .i64 y.o, .int .u64 y.m, .int .u64 y.v])).run Tryz.prog w = .ok (.bool (x.same y)) w := by
  rw [run_eql_struct, equalIn_no]
  rfl

/-- a call: its number, the architecture, where it stands, its arguments. -/
structure Da where
  n : Int
  a : Int
  p : Int
  g : List Int

/-- what a call's fields may be. -/
def Da.ok (d : Da) : Prop := U32 d.n ∧ U32 d.a ∧ U64 d.p ∧ d.g.length = 6 ∧ ∀ z ∈ d.g, U64 z

def Da.cells (d : Da) : List Value := .int .u32 d.n :: .int .u32 d.a :: .int .u64 d.p :: d.g.map (Value.int .u64)
def Da.val (d : Da) : Value := .agg d.cells.toArray

theorem Da.cells_len (d : Da) (h : d.ok) : d.cells.length = 9 := by simp [Da.cells, h.2.2.2.1]
theorem Da.cells_one (d : Da) : d.cells.toArray.all (·.oneCell') = true := by
  simp [Da.cells, Value.oneCell']
theorem Da.size (d : Da) (h : d.ok) : (Tryz.prog.info? 27).map (·.size) = some d.cells.toArray.size := by rw [Tryz.size27]; simp [d.cells_len h]

/-- an argument of a call. -/
theorem Da.arg (d : Da) (h : d.ok) (k : Nat) (hk : k < 6) : d.cells[3 + k]? = some (.int .u64 (d.g.getD k 0)) ∧ U64 (d.g.getD k 0) := by
  have hl := h.2.2.2.1
  have e : d.g[k]? = some (d.g.getD k 0) := by
    rw [List.getD_eq_getElem?_getD, List.getElem?_eq_getElem (show k < d.g.length by omega)]
    rfl
  refine ⟨?_, h.2.2.2.2 _ (List.mem_of_getElem? e)⟩
  rw [Nat.add_comm]
  unfold Da.cells
  rw [List.getElem?_cons_succ, List.getElem?_cons_succ, List.getElem?_cons_succ, List.getElem?_map, e]
  rfl

end Go.Proofs.YtcckipimfgmmdaaGreatDoor.C
