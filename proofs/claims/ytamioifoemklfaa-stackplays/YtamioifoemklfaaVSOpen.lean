/-
  One instruction by the document's own words: what the walks share; proved of every state.
-/
import Derived.Test.YtamioifoemklfaaVSMem
namespace Go.Proofs.Ytamioifoemklfaa.V
open Go.RowKit
set_option linter.unusedVariables false


/-- a world may be named anew. -/
theorem switch_world {P : Program} {ops : Array Oper} {Q : Exit → Act → World → Prop} {l : List Oper} {a : Act} {w X : World} (hw : w = X) (h : wpList P ops Q l a X) : wpList P ops Q l a w := hw ▸ h

/-- the operation that comes next. -/
theorem at_op {P : Program} {ops : Array Oper} {Q : Exit → Act → World → Prop} {rest : List Oper} {o : Oper} {a : Act} {w : World} (op : Op) (_ho : o.op = op) (h : wpList P ops Q (o :: rest) a w) : wpList P ops Q (o :: rest) a w := h

theorem r55 {p st : Int} {s : St} {ov : Bool} : (Try.prog.info? 77).map (·.size) = some (rcells p st s ov).toArray.size := Try.size77

/-- behind the first three blocks. -/
structure Three (w : World) (d : Da) (L : Array Value) (X : World) : Prop where
  bw : Below w.heap.size w X
  sz : X.heap.size = w.heap.size + 1 + 1 + 1
  rd : Blk X w.heap.size 27 d.cells
  rb : Blk X (w.heap.size + 1) 77 L.toList
  rz : Blk X (w.heap.size + 1 + 1) 77 [.int .i64 0, .int .i64 0, .int .u32 0, .int .u32 0, .int .u32 0, .int .u32 0, .int .u32 0, .int .u32 0, .int .u32 0, .int .u32 0, .int .u32 0, .int .u32 0, .int .u32 0, .int .u32 0, .int .u32 0, .int .u32 0, .int .u32 0, .int .u32 0, .int .u32 0, .int .u32 0, .bool false, .int .u32 0]

theorem step_open (w : World) (d : Da) (L : Array Value) : ∃ X, Hid ((((w.alloc (Obj.cells d.cells.toArray 27)).alloc (Obj.cells L 77)).alloc (Obj.cells #[.int .i64 0, .int .i64 0, .int .u32 0, .int .u32 0, .int .u32 0, .int .u32 0, .int .u32 0, .int .u32 0, .int .u32 0, .int .u32 0, .int .u32 0, .int .u32 0, .int .u32 0, .int .u32 0, .int .u32 0, .int .u32 0, .int .u32 0, .int .u32 0, .int .u32 0, .int .u32 0, .bool false, .int .u32 0] 77)) = X) ∧ Three w d L X := by
  refine ⟨_, rfl, ?_⟩
  have b1 := below_new w (Obj.cells d.cells.toArray 27)
  have b2 := b1.alloc b1.size (Obj.cells L 77)
  have b3 := b2.alloc b2.size (Obj.cells #[.int .i64 0, .int .i64 0, .int .u32 0, .int .u32 0, .int .u32 0, .int .u32 0, .int .u32 0, .int .u32 0, .int .u32 0, .int .u32 0, .int .u32 0, .int .u32 0, .int .u32 0, .int .u32 0, .int .u32 0, .int .u32 0, .int .u32 0, .int .u32 0, .int .u32 0, .int .u32 0, .bool false, .int .u32 0] 77)
  have hz := blk_new ((w.alloc (Obj.cells d.cells.toArray 27)).alloc (Obj.cells L 77)) #[.int .i64 0, .int .i64 0, .int .u32 0, .int .u32 0, .int .u32 0, .int .u32 0, .int .u32 0, .int .u32 0, .int .u32 0, .int .u32 0, .int .u32 0, .int .u32 0, .int .u32 0, .int .u32 0, .int .u32 0, .int .u32 0, .int .u32 0, .int .u32 0, .int .u32 0, .int .u32 0, .bool false, .int .u32 0] 77
  rw [size_alloc', size_alloc'] at hz
  exact ⟨b3, by rw [size_alloc', size_alloc', size_alloc'], ((blk_new w d.cells.toArray 27).alloc _).alloc _, (blk_new' w _ L 77).alloc _, hz⟩

/-- behind the instruction's copy. -/
structure Park (w : World) (d : Da) (X Y : World) (x : In) (p st : Int) (s : St) : Prop where
  bw : Below w.heap.size w Y
  rd : Blk Y w.heap.size 27 d.cells
  rb : RB Y (w.heap.size + 1) p st s false
  rz : Blk Y (w.heap.size + 1 + 1) 77 [.int .i64 0, .int .i64 0, .int .u32 0, .int .u32 0, .int .u32 0, .int .u32 0, .int .u32 0, .int .u32 0, .int .u32 0, .int .u32 0, .int .u32 0, .int .u32 0, .int .u32 0, .int .u32 0, .int .u32 0, .int .u32 0, .int .u32 0, .int .u32 0, .int .u32 0, .int .u32 0, .bool false, .int .u32 0]
  ci : In.at x Y X.heap.size 0

theorem step_park {w X Y : World} {d : Da} {x : In} {p st : Int} {s : St} (h : Three w d (rcells p st s false).toArray X) (hY : X.alloc (Obj.cells #[.int .u16 x.c, .int .u8 x.t, .int .u8 x.f, .int .u32 x.k] 56) = Y) : Park w d X Y x p st s := by
  subst hY
  exact ⟨h.bw.alloc h.bw.size _, h.rd.alloc _, Blk.alloc h.rb _, h.rz.alloc _, at_new X x⟩

/-- behind a call. -/
structure Parked (w w2 : World) (p st : Int) (s : St) : Prop where
  bw : Below w.heap.size w w2
  rb : RB w2 (w.heap.size + 1) p st s false
  rz : Blk w2 (w.heap.size + 1 + 1) 77 [.int .i64 0, .int .i64 0, .int .u32 0, .int .u32 0, .int .u32 0, .int .u32 0, .int .u32 0, .int .u32 0, .int .u32 0, .int .u32 0, .int .u32 0, .int .u32 0, .int .u32 0, .int .u32 0, .int .u32 0, .int .u32 0, .int .u32 0, .int .u32 0, .int .u32 0, .int .u32 0, .bool false, .int .u32 0]

theorem park_over {w X Y w2 : World} {d : Da} {x : In} {p st p' st' : Int} {s : St} (h : Park w d X Y x p st s) (hb : Below ((Y.setCell ⟨w.heap.size + 1, 0, none⟩ (.int .i64 p')).setCell ⟨w.heap.size + 1, 1, none⟩ (.int .i64 st')).heap.size ((Y.setCell ⟨w.heap.size + 1, 0, none⟩ (.int .i64 p')).setCell ⟨w.heap.size + 1, 1, none⟩ (.int .i64 st')) w2) : Parked w w2 p' st' s := by
  have r1 := (h.rb.setAt p').setSteps st'
  have r2 := (h.rz.other ⟨w.heap.size + 1, 0, none⟩ (.int .i64 p') (by show w.heap.size + 1 + 1 ≠ w.heap.size + 1; omega)).other ⟨w.heap.size + 1, 1, none⟩ (.int .i64 st') (by show w.heap.size + 1 + 1 ≠ w.heap.size + 1; omega)
  have r3 := (h.bw.setCell (p := ⟨w.heap.size + 1, 0, none⟩) (by show w.heap.size ≤ w.heap.size + 1; omega) (.int .i64 p')).setCell (p := ⟨w.heap.size + 1, 1, none⟩) (by show w.heap.size ≤ w.heap.size + 1; omega) (.int .i64 st')
  exact ⟨r3.trans (hb.mono r3.size), Blk.over r1 hb, r2.over hb⟩

end Go.Proofs.Ytamioifoemklfaa.V
