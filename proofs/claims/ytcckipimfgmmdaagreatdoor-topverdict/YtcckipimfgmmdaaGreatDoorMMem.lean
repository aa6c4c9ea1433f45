/-
  Rows of a call's own, blocks, calls as they lie in memory.
-/
import Derived.Test.YtcckipimfgmmdaaGreatDoorMMath
import Derived.Test.YtcckipimfgmmdaaGreatDoorChecked
import Derived.WalkKit
import Derived.WalkSpells
import Derived.WalkLawsBesides
import Derived.Laws.AppendOwnNone
import Derived.Laws.MakeOwn
import Derived.Laws.OwnMore
import Derived.Laws.Rows
import Derived.Laws.Tables
import Derived.Laws.CopyOwn
import Derived.Laws.StructEq
import Derived.Laws.RangeString
import Derived.Laws.RangeAny
import Derived.Laws.IdiomStrings
namespace Go.Proofs.YtcckipimfgmmdaaGreatDoor.M
open Go.RowKit


theorem ret_int {k : IntKind} {a b : Int} (h : a = b) : Ending.returned (.int k a) = .returned (.int k b) := by rw [h]
theorem ret_bool {a b : Bool} (h : a = b) : Ending.returned (.bool a) = .returned (.bool b) := by rw [h]

theorem owns_block {w : World} {base sz : Nat} {t : TypeId} {v : Value} {n : Nat} {xs : List Value} (h : w.ownsRow base t sz v n xs) : ∀ k, v.ownBlock = some k → base ≤ k := by
  intro k hk
  rcases h.2 with ⟨rfl, rfl⟩ | ⟨g, cap, cur, rfl, hb, _⟩
  · cases hk
  · cases hk; exact hb

theorem owns_lower {w : World} {B B' sz : Nat} {t : TypeId} {v : Value} {n : Nat} {xs : List Value} (h : w.ownsRow B t sz v n xs) (hB : B' ≤ B) : w.ownsRow B' t sz v n xs := by
  refine ⟨h.1, ?_⟩
  rcases h.2 with hn | ⟨g, cap, cur, hv, hg, r⟩
  · exact .inl hn
  · exact .inr ⟨g, cap, cur, hv, Nat.le_trans hB hg, r⟩

/-- a row stays where no block below a bound is touched, and it lies below. -/
theorem owns_below {w w' : World} {base sz B : Nat} {t : TypeId} {v : Value} {n : Nat} {xs : List Value} (h : w.ownsRow base t sz v n xs) (hb : Below B w w') (hB : w.heap.size ≤ B) : w'.ownsRow base t sz v n xs := by
  refine ⟨h.1, ?_⟩
  rcases h.2 with hn | ⟨g, cap, cur, hv, hg, hh, r⟩
  · exact .inl hn
  · exact .inr ⟨g, cap, cur, hv, hg, by rw [hb.block g (Nat.lt_of_lt_of_le (lt_of_block hh) hB)]; exact hh, r⟩

theorem size_alloc' (w : World) (o : Obj) : (w.alloc o).heap.size = w.heap.size + 1 := by
  show (w.heap.push o).size = _
  simp

theorem below_drewN (w : World) (n : Nat) : Below w.heap.size w (w.drewN n) := by
  induction n with
  | zero => exact Below.refl _ _
  | succ n ih => exact ih.drew

/-- a block of cells that nobody froze. -/
def Blk (w : World) (b : Nat) (t : TypeId) (l : List Value) : Prop := w.heap[b]? = some (.cells l.toArray t (0, 0))

section
variable {w : World} {b : Nat} {t : TypeId} {l : List Value}
theorem Blk.cell (h : Blk w b t l) (i : Nat) : w.cell? ⟨b, i, none⟩ = l[i]? := by
  rw [cell_of_row w b i _ _ _ h]
  simp
theorem Blk.f (h : Blk w b t l) (i : Nat) : w.frozen? ⟨b, i, none⟩ = false := frozen_of_row w b i _ _ h
theorem Blk.lt (h : Blk w b t l) : b < w.heap.size := lt_of_block h
theorem Blk.below {w' : World} {B : Nat} (h : Blk w b t l) (hb : Below B w w') (hB : b < B) : Blk w' b t l := by unfold Blk; rw [hb.block b hB]; exact h
theorem Blk.over {w' : World} (h : Blk w b t l) (hb : Below w.heap.size w w') : Blk w' b t l := h.below hb h.lt
theorem Blk.set (h : Blk w b t l) (i : Nat) (v : Value) : Blk (w.setCell ⟨b, i, none⟩ v) b t (l.set i v) := by
  have := heap_setCell_same w b i _ _ v h
  unfold Blk
  rw [this]
  simp
theorem Blk.other (h : Blk w b t l) (a : Addr) (v : Value) (hne : b ≠ a.block) : Blk (w.setCell a v) b t l := by
  unfold Blk
  rw [heap_setCell_other w a b v hne]
  exact h
theorem Blk.row (h : Blk w b t l) (cs : Array Value) : Blk (w.setRow b cs) b t cs.toList := by
  unfold Blk
  rw [setRow_heap w b _ cs _ _ h]
theorem Blk.alloc (h : Blk w b t l) (o : Obj) : Blk (w.alloc o) b t l := by
  unfold Blk
  have hb : Below w.heap.size w (w.alloc o) := (Below.refl _ _).alloc (Nat.le_refl _) _
  rw [hb.block b h.lt]
  exact h
end

theorem blk_new (w : World) (cs : Array Value) (t : TypeId) : Blk (w.alloc (Obj.cells cs t)) w.heap.size t cs.toList := by
  unfold Blk
  rw [heap_alloc_new]

section
variable {w : World} {b : Nat} {t : TypeId} {l : List Value}
theorem Blk.drew (h : Blk w b t l) : Blk w.drew b t l := h
theorem Blk.row_other (h : Blk w b t l) (g : Nat) (cs : Array Value) (hne : b ≠ g) : Blk (w.setRow g cs) b t l := by
  unfold Blk
  rw [setRow_other w g b cs hne]
  exact h
end

theorem Tryz.sizeD : (Tryz.prog.info? 27).map (·.size) = some 9 := by kernel_rfl

theorem blk_new' (w : World) (o : Obj) (cs : Array Value) (t : TypeId) : Blk ((w.alloc o).alloc (Obj.cells cs t)) (w.heap.size + 1) t cs.toList := by
  have := blk_new (w.alloc o) cs t
  rw [size_alloc'] at this
  exact this

/-- an item of an array by value. -/
theorem index_row (t e : TypeId) (n : Nat) (ik k : IntKind) (ht : Tryz.prog.underlying t = some (.array n e)) (he : Tryz.prog.underlying e = some (.int k)) (hsz : ∀ w, (sizeOf e).run Tryz.prog w = .ok 1 w)
    (A : Array Value) (i : Nat) (x : Int) (hi : i < n) (hA : A[i]? = some (.int k x)) (W : World) : (Instr.index t (.agg A) (.int ik i)).run Tryz.prog W = .ok (.int k x) W := by
  have hc : (0 : Int) ≤ (i : Int) ∧ (i : Int) < (n : Int) := by omega
  simp [Instr.index, asIntOf, run_underlying ht, hsz, part, isAgg, run_underlying he, hc, hA]
  intro h
  omega


theorem below_new (w : World) (o : Obj) : Below w.heap.size w (w.alloc o) := (Below.refl _ _).alloc (Nat.le_refl _) _

/-- a call: its number, the architecture, where it stands, its arguments. -/
structure Da where
  n : Int
  a : Int
  p : Int
  g : List Int

/-- what a call's fields may be. -/
def Da.ok (d : Da) : Prop := U32 d.n ∧ U32 d.a ∧ U64 d.p ∧ d.g.length = 6 ∧ ∀ z ∈ d.g, U64 z

def Da.cells (d : Da) : List Value := .int .u32 d.n :: .int .u32 d.a :: .int .u64 d.p :: d.g.map (Value.int .u64)
def Da.val (d : Da) : Value := .agg d.cells.toArray

theorem Da.cells_len (d : Da) (h : d.ok) : d.cells.length = 9 := by simp [Da.cells, h.2.2.2.1]
theorem Da.cells_one (d : Da) : d.cells.toArray.all (·.oneCell') = true := by
  simp [Da.cells, Value.oneCell']
theorem Da.size (d : Da) (h : d.ok) : (Tryz.prog.info? 27).map (·.size) = some d.cells.toArray.size := by rw [Tryz.sizeD]; simp [d.cells_len h]

/-- an argument of a call. -/
theorem Da.arg (d : Da) (h : d.ok) (k : Nat) (hk : k < 6) : d.cells[3 + k]? = some (.int .u64 (d.g.getD k 0)) ∧ U64 (d.g.getD k 0) := by
  have hl := h.2.2.2.1
  have e : d.g[k]? = some (d.g.getD k 0) := by
    rw [List.getD_eq_getElem?_getD, List.getElem?_eq_getElem (show k < d.g.length by omega)]
    rfl
  refine ⟨?_, h.2.2.2.2 _ (List.mem_of_getElem? e)⟩
  rw [Nat.add_comm]
  unfold Da.cells
  rw [List.getElem?_cons_succ, List.getElem?_cons_succ, List.getElem?_cons_succ, List.getElem?_map, e]
  rfl

theorem room_below (w : World) (o o' : Obj) : Below w.heap.size w ((w.alloc o).alloc o') := (below_new w o).alloc (below_new w o).size _

end Go.Proofs.YtcckipimfgmmdaaGreatDoor.M
