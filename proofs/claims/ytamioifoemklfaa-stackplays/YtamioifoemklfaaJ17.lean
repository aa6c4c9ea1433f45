/-
  Texts of this seat, joined: VSMem, VSOpen, VSPlain.
-/
import Derived.Test.YtamioifoemklfaaJ8
import Derived.Test.YtamioifoemklfaaJ16

namespace Go.Proofs.Ytamioifoemklfaa.V
open Go.RowKit

/-- the cells of a state. -/
def rcells (p st : Int) (s : St) (ov : Bool) : List Value :=
  [.int .i64 p, .int .i64 st, .int .u32 s.a, .int .u32 s.x, .int .u32 (s.c 0), .int .u32 (s.c 1), .int .u32 (s.c 2), .int .u32 (s.c 3), .int .u32 (s.c 4), .int .u32 (s.c 5), .int .u32 (s.c 6), .int .u32 (s.c 7), .int .u32 (s.c 8), .int .u32 (s.c 9), .int .u32 (s.c 10), .int .u32 (s.c 11), .int .u32 (s.c 12), .int .u32 (s.c 13), .int .u32 (s.c 14), .int .u32 (s.c 15), .bool ov, .int .u32 s.ans]

theorem rcells_len (p st : Int) (s : St) (ov : Bool) : (rcells p st s ov).length = 22 := rfl
theorem rcells_one (p st : Int) (s : St) (ov : Bool) : (rcells p st s ov).toArray.all (·.oneCell') = true := by simp [rcells, Value.oneCell']
theorem rcells_c (p st : Int) (s : St) (ov : Bool) (k : Nat) (hk : k < 16) : (rcells p st s ov)[4 + k]? = some (.int .u32 (s.c k)) := by
  match k, hk with
  | 0, _ | 1, _ | 2, _ | 3, _ | 4, _ | 5, _ | 6, _ | 7, _ | 8, _ | 9, _ | 10, _ | 11, _ | 12, _ | 13, _ | 14, _ | 15, _ => rfl
  | n + 16, h => omega
theorem rcells_put (p st : Int) (s : St) (ov : Bool) (k : Nat) (v : Int) (hk : k < 16) : (rcells p st s ov).set (4 + k) (.int .u32 v) = rcells p st { s with c := putC s.c k v } ov := by
  match k, hk with
  | 0, _ | 1, _ | 2, _ | 3, _ | 4, _ | 5, _ | 6, _ | 7, _ | 8, _ | 9, _ | 10, _ | 11, _ | 12, _ | 13, _ | 14, _ | 15, _ => rfl
  | n + 16, h => omega

theorem Try.size77 : (Try.prog.info? 77).map (·.size) = some 22 := by kernel_rfl

/-- a state in a block of its own. -/
def RB (w : World) (b : Nat) (p st : Int) (s : St) (ov : Bool) : Prop := Blk w b 77 (rcells p st s ov)

section
variable {w : World} {b : Nat} {p st : Int} {s : St} {ov : Bool}
theorem RB.setAt (h : RB w b p st s ov) (v : Int) : RB (w.setCell ⟨b, 0, none⟩ (.int .i64 v)) b v st s ov := h.set 0 _
theorem RB.setSteps (h : RB w b p st s ov) (v : Int) : RB (w.setCell ⟨b, 1, none⟩ (.int .i64 v)) b p v s ov := h.set 1 _
theorem RB.setA (h : RB w b p st s ov) (v : Int) : RB (w.setCell ⟨b, 2, none⟩ (.int .u32 v)) b p st { s with a := v } ov := h.set 2 _
theorem RB.setX (h : RB w b p st s ov) (v : Int) : RB (w.setCell ⟨b, 3, none⟩ (.int .u32 v)) b p st { s with x := v } ov := h.set 3 _
theorem RB.setOver (h : RB w b p st s ov) (v : Bool) : RB (w.setCell ⟨b, 20, none⟩ (.bool v)) b p st s v := h.set 20 _
theorem RB.setAns (h : RB w b p st s ov) (v : Int) : RB (w.setCell ⟨b, 21, none⟩ (.int .u32 v)) b p st { s with ans := v } ov := h.set 21 _
theorem RB.setC (h : RB w b p st s ov) (k : Nat) (hk : k < 16) (v : Int) : RB (w.setCell ⟨b, 4 + k, none⟩ (.int .u32 v)) b p st { s with c := putC s.c k v } ov := by
  have := h.set (4 + k) (.int .u32 v)
  rw [rcells_put p st s ov k v hk] at this
  exact this
end

end Go.Proofs.Ytamioifoemklfaa.V

namespace Go.Proofs.Ytamioifoemklfaa.V
open Go.RowKit
set_option linter.unusedVariables false


/-- a world may be named anew. -/
theorem switch_world {P : Program} {ops : Array Oper} {Q : Exit → Act → World → Prop} {l : List Oper} {a : Act} {w X : World} (hw : w = X) (h : wpList P ops Q l a X) : wpList P ops Q l a w := hw ▸ h

/-- the operation that comes next. -/
theorem at_op {P : Program} {ops : Array Oper} {Q : Exit → Act → World → Prop} {rest : List Oper} {o : Oper} {a : Act} {w : World} (op : Op) (_ho : o.op = op) (h : wpList P ops Q (o :: rest) a w) : wpList P ops Q (o :: rest) a w := h

theorem r55 {p st : Int} {s : St} {ov : Bool} : (Try.prog.info? 77).map (·.size) = some (rcells p st s ov).toArray.size := Try.size77

/-- behind the first three blocks. -/
structure Three (w : World) (d : Da) (L : Array Value) (X : World) : Prop where
  bw : Below w.heap.size w X
  sz : X.heap.size = w.heap.size + 1 + 1 + 1
  rd : Blk X w.heap.size 27 d.cells
  rb : Blk X (w.heap.size + 1) 77 L.toList
  rz : Blk X (w.heap.size + 1 + 1) 77 [.int .i64 0, .int .i64 0, .int .u32 0, .int .u32 0, .int .u32 0, .int .u32 0, .int .u32 0, .int .u32 0, .int .u32 0, .int .u32 0, .int .u32 0, .int .u32 0, .int .u32 0, .int .u32 0, .int .u32 0, .int .u32 0, .int .u32 0, .int .u32 0, .int .u32 0, .int .u32 0, .bool false, .int .u32 0]

theorem step_open (w : World) (d : Da) (L : Array Value) : ∃ X, Hid ((((w.alloc (Obj.cells d.cells.toArray 27)).alloc (Obj.cells L 77)).alloc (Obj.cells #[.int .i64 0, .int .i64 0, .int .u32 0, .int .u32 0, .int .u32 0, .int .u32 0, .int .u32 0, .int .u32 0, .int .u32 0, .int .u32 0, .int .u32 0, .int .u32 0, .int .u32 0, .int .u32 0, .int .u32 0, .int .u32 0, .int .u32 0, .int .u32 0, .int .u32 0, .int .u32 0, .bool false, .int .u32 0] 77)) = X) ∧ Three w d L X := by
  refine ⟨_, rfl, ?_⟩
  have b1 := below_new w (Obj.cells d.cells.toArray 27)
  have b2 := b1.alloc b1.size (Obj.cells L 77)
  have b3 := b2.alloc b2.size (Obj.cells #[.int .i64 0, .int .i64 0, .int .u32 0, .int .u32 0, .int .u32 0, .int .u32 0, .int .u32 0, .int .u32 0, .int .u32 0, .int .u32 0, .int .u32 0, .int .u32 0, .int .u32 0, .int .u32 0, .int .u32 0, .int .u32 0, .int .u32 0, .int .u32 0, .int .u32 0, .int .u32 0, .bool false, .int .u32 0] 77)
  have hz := blk_new ((w.alloc (Obj.cells d.cells.toArray 27)).alloc (Obj.cells L 77)) #[.int .i64 0, .int .i64 0, .int .u32 0, .int .u32 0, .int .u32 0, .int .u32 0, .int .u32 0, .int .u32 0, .int .u32 0, .int .u32 0, .int .u32 0, .int .u32 0, .int .u32 0, .int .u32 0, .int .u32 0, .int .u32 0, .int .u32 0, .int .u32 0, .int .u32 0, .int .u32 0, .bool false, .int .u32 0] 77
  rw [size_alloc', size_alloc'] at hz
  exact ⟨b3, by rw [size_alloc', size_alloc', size_alloc'], ((blk_new w d.cells.toArray 27).alloc _).alloc _, (blk_new' w _ L 77).alloc _, hz⟩

/-- behind the instruction's copy. -/
structure Park (w : World) (d : Da) (X Y : World) (x : In) (p st : Int) (s : St) : Prop where
  bw : Below w.heap.size w Y
  rd : Blk Y w.heap.size 27 d.cells
  rb : RB Y (w.heap.size + 1) p st s false
  rz : Blk Y (w.heap.size + 1 + 1) 77 [.int .i64 0, .int .i64 0, .int .u32 0, .int .u32 0, .int .u32 0, .int .u32 0, .int .u32 0, .int .u32 0, .int .u32 0, .int .u32 0, .int .u32 0, .int .u32 0, .int .u32 0, .int .u32 0, .int .u32 0, .int .u32 0, .int .u32 0, .int .u32 0, .int .u32 0, .int .u32 0, .bool false, .int .u32 0]
  ci : In.at x Y X.heap.size 0

theorem step_park {w X Y : World} {d : Da} {x : In} {p st : Int} {s : St} (h : Three w d (rcells p st s false).toArray X) (hY : X.alloc (Obj.cells #[.int .u16 x.c, .int .u8 x.t, .int .u8 x.f, .int .u32 x.k] 56) = Y) : Park w d X Y x p st s := by
  subst hY
  exact ⟨h.bw.alloc h.bw.size _, h.rd.alloc _, Blk.alloc h.rb _, h.rz.alloc _, at_new X x⟩

/-- behind a call. -/
structure Parked (w w2 : World) (p st : Int) (s : St) : Prop where
  bw : Below w.heap.size w w2
  rb : RB w2 (w.heap.size + 1) p st s false
  rz : Blk w2 (w.heap.size + 1 + 1) 77 [.int .i64 0, .int .i64 0, .int .u32 0, .int .u32 0, .int .u32 0, .int .u32 0, .int .u32 0, .int .u32 0, .int .u32 0, .int .u32 0, .int .u32 0, .int .u32 0, .int .u32 0, .int .u32 0, .int .u32 0, .int .u32 0, .int .u32 0, .int .u32 0, .int .u32 0, .int .u32 0, .bool false, .int .u32 0]

theorem park_over {w X Y w2 : World} {d : Da} {x : In} {p st p' st' : Int} {s : St} (h : Park w d X Y x p st s) (hb : Below ((Y.setCell ⟨w.heap.size + 1, 0, none⟩ (.int .i64 p')).setCell ⟨w.heap.size + 1, 1, none⟩ (.int .i64 st')).heap.size ((Y.setCell ⟨w.heap.size + 1, 0, none⟩ (.int .i64 p')).setCell ⟨w.heap.size + 1, 1, none⟩ (.int .i64 st')) w2) : Parked w w2 p' st' s := by
  have r1 := (h.rb.setAt p').setSteps st'
  have r2 := (h.rz.other ⟨w.heap.size + 1, 0, none⟩ (.int .i64 p') (by show w.heap.size + 1 + 1 ≠ w.heap.size + 1; omega)).other ⟨w.heap.size + 1, 1, none⟩ (.int .i64 st') (by show w.heap.size + 1 + 1 ≠ w.heap.size + 1; omega)
  have r3 := (h.bw.setCell (p := ⟨w.heap.size + 1, 0, none⟩) (by show w.heap.size ≤ w.heap.size + 1; omega) (.int .i64 p')).setCell (p := ⟨w.heap.size + 1, 1, none⟩) (by show w.heap.size ≤ w.heap.size + 1; omega) (.int .i64 st')
  exact ⟨r3.trans (hb.mono r3.size), Blk.over r1 hb, r2.over hb⟩

end Go.Proofs.Ytamioifoemklfaa.V

namespace Go.Proofs.Ytamioifoemklfaa.V
open Go.RowKit
set_option linter.unusedVariables false

set_option maxRecDepth 8000 in
set_option maxHeartbeats 4000000 in
theorem step_0 (t f k : Int) (p st len cap ib off : Nat) (s : St) (d : Da) (w : World) (hd : d.ok) (hp : p < len) (hlen : len ≤ 4096) (hst : st ≤ 4096) (hat : In.at ⟨0, t, f, k⟩ w ib (off + p * 4)) :
    Calls Try.prog 38 #[.slice (some ⟨ib, off, none⟩) len cap, d.val, .agg (rcells p st s false).toArray] w fun e w' => e = .returned (.agg (rcells (p + 1) (st + 1) { s with a := k } false).toArray) ∧ Below w.heap.size w w' := by
  have b8 : bits .and .u16 0 8 = 0 := by kernel_rfl
  have b7 : bits .and .u16 0 7 = 0 := by kernel_rfl
  unfold Da.val
  obtain ⟨X, HX, hX⟩ := step_open w d (rcells p st s false).toArray
  obtain ⟨q1, q2, q3, q4⟩ := hat.below hX.bw
  obtain ⟨Y, HY⟩ : ∃ Y, Hid (X.alloc (Obj.cells #[.int .u16 0, .int .u8 t, .int .u8 f, .int .u32 k] 56) = Y) := ⟨_, rfl⟩
  have hP : Park w d X Y ⟨0, t, f, k⟩ p st s := step_park hX HY.out
  have HP : Hid (Park w d X Y ⟨0, t, f, k⟩ p st s) := hP
  obtain ⟨i1, i2, i3, i4⟩ := hP.ci
  have c0 : X.cell? ⟨w.heap.size + 1, 0, none⟩ = some (.int .i64 p) := Blk.cell hX.rb 0
  have e0 : Y.cell? ⟨w.heap.size + 1, 0, none⟩ = some (.int .i64 p) := Blk.cell hP.rb 0
  have e1 : Y.cell? ⟨w.heap.size + 1, 1, none⟩ = some (.int .i64 st) := Blk.cell hP.rb 1
  have e2 : Y.cell? ⟨w.heap.size + 1, 2, none⟩ = some (.int .u32 s.a) := Blk.cell hP.rb 2
  have e3 : Y.cell? ⟨w.heap.size + 1, 3, none⟩ = some (.int .u32 s.x) := Blk.cell hP.rb 3
  have e20 : Y.cell? ⟨w.heap.size + 1, 20, none⟩ = some (.bool false) := Blk.cell hP.rb 20
  have e21 : Y.cell? ⟨w.heap.size + 1, 21, none⟩ = some (.int .u32 s.ans) := Blk.cell hP.rb 21
  have f0 : ∀ i, Y.frozen? ⟨w.heap.size + 1, i, none⟩ = false := fun i => Blk.f hP.rb i
  have n1 : X.heap.size ≠ w.heap.size + 1 := by have := hX.sz; omega
  have n2 : w.heap.size + 1 ≠ X.heap.size := fun h => n1 h.symm
  have hi1 : (p : Int) < (len : Int) := by omega
  clear hat hX hP hd
  generalize hL : (rcells p st s false).toArray = L at HX ⊢
  clear hL
  go_enter Try.func38, Try.ntmps38
  go_wp2_with (first | (refine switch_world HX.out ?_) | (refine switch_world HY.out ?_) | (refine at_op (.load 77 (.tmp 5)) rfl ?_; refine wpList_load_row rfl 77 (.tmp 5) rfl (w.heap.size + 1) rfl 77 (rcells (p + 1) (st + 1) { s with a := k } false).toArray (0, 0) _ (((HP.out.rb.setAt _).setSteps _).setA _) Try.underlying77 rfl r55 ?_) | (refine at_op (.store 77 (.tmp 6) (.tmp 176)) rfl ?_; refine wpList_store_row rfl 77 (.tmp 6) (.tmp 176) rfl (w.heap.size + 1 + 1) (rcells (p + 1) (st + 1) { s with a := k } false).toArray rfl rfl 77 _ (((HP.out.rz.other _ _ (by show w.heap.size + 1 + 1 ≠ w.heap.size + 1; omega)).other _ _ (by show w.heap.size + 1 + 1 ≠ w.heap.size + 1; omega)).other _ _ (by show w.heap.size + 1 + 1 ≠ w.heap.size + 1; omega)) r55 rfl (rcells_one _ _ _ _) ?_))
  refine bodyPost_ret (v := .agg (rcells (p + 1) (st + 1) { s with a := k } false).toArray) ?_ rfl ⟨rfl, ?_⟩
  · exact results_cell_row Try.results38 _ _ (w.heap.size + 1 + 1) 77 (rcells (p + 1) (st + 1) { s with a := k } false).toArray (0, 0) _ rfl (Blk.row (((HP.out.rz.other _ _ (by show w.heap.size + 1 + 1 ≠ w.heap.size + 1; omega)).other _ _ (by show w.heap.size + 1 + 1 ≠ w.heap.size + 1; omega)).other _ _ (by show w.heap.size + 1 + 1 ≠ w.heap.size + 1; omega)) _) Try.underlying77 rfl r55
  · exact below_setRow (((HP.out.bw.setCell (by show w.heap.size ≤ w.heap.size + 1; omega) _).setCell (by show w.heap.size ≤ w.heap.size + 1; omega) _).setCell (by show w.heap.size ≤ w.heap.size + 1; omega) _) (show w.heap.size ≤ w.heap.size + 1 + 1 by omega) _

set_option maxRecDepth 8000 in
set_option maxHeartbeats 4000000 in
theorem step_1 (t f k : Int) (p st len cap ib off : Nat) (s : St) (d : Da) (w : World) (hd : d.ok) (hp : p < len) (hlen : len ≤ 4096) (hst : st ≤ 4096) (hat : In.at ⟨1, t, f, k⟩ w ib (off + p * 4)) :
    Calls Try.prog 38 #[.slice (some ⟨ib, off, none⟩) len cap, d.val, .agg (rcells p st s false).toArray] w fun e w' => e = .returned (.agg (rcells (p + 1) (st + 1) { s with x := k } false).toArray) ∧ Below w.heap.size w w' := by
  have b8 : bits .and .u16 1 8 = 0 := by kernel_rfl
  have b7 : bits .and .u16 1 7 = 1 := by kernel_rfl
  unfold Da.val
  obtain ⟨X, HX, hX⟩ := step_open w d (rcells p st s false).toArray
  obtain ⟨q1, q2, q3, q4⟩ := hat.below hX.bw
  obtain ⟨Y, HY⟩ : ∃ Y, Hid (X.alloc (Obj.cells #[.int .u16 1, .int .u8 t, .int .u8 f, .int .u32 k] 56) = Y) := ⟨_, rfl⟩
  have hP : Park w d X Y ⟨1, t, f, k⟩ p st s := step_park hX HY.out
  have HP : Hid (Park w d X Y ⟨1, t, f, k⟩ p st s) := hP
  obtain ⟨i1, i2, i3, i4⟩ := hP.ci
  have c0 : X.cell? ⟨w.heap.size + 1, 0, none⟩ = some (.int .i64 p) := Blk.cell hX.rb 0
  have e0 : Y.cell? ⟨w.heap.size + 1, 0, none⟩ = some (.int .i64 p) := Blk.cell hP.rb 0
  have e1 : Y.cell? ⟨w.heap.size + 1, 1, none⟩ = some (.int .i64 st) := Blk.cell hP.rb 1
  have e2 : Y.cell? ⟨w.heap.size + 1, 2, none⟩ = some (.int .u32 s.a) := Blk.cell hP.rb 2
  have e3 : Y.cell? ⟨w.heap.size + 1, 3, none⟩ = some (.int .u32 s.x) := Blk.cell hP.rb 3
  have e20 : Y.cell? ⟨w.heap.size + 1, 20, none⟩ = some (.bool false) := Blk.cell hP.rb 20
  have e21 : Y.cell? ⟨w.heap.size + 1, 21, none⟩ = some (.int .u32 s.ans) := Blk.cell hP.rb 21
  have f0 : ∀ i, Y.frozen? ⟨w.heap.size + 1, i, none⟩ = false := fun i => Blk.f hP.rb i
  have n1 : X.heap.size ≠ w.heap.size + 1 := by have := hX.sz; omega
  have n2 : w.heap.size + 1 ≠ X.heap.size := fun h => n1 h.symm
  have hi1 : (p : Int) < (len : Int) := by omega
  clear hat hX hP hd
  generalize hL : (rcells p st s false).toArray = L at HX ⊢
  clear hL
  go_enter Try.func38, Try.ntmps38
  go_wp2_with (first | (refine switch_world HX.out ?_) | (refine switch_world HY.out ?_) | (refine at_op (.load 77 (.tmp 5)) rfl ?_; refine wpList_load_row rfl 77 (.tmp 5) rfl (w.heap.size + 1) rfl 77 (rcells (p + 1) (st + 1) { s with x := k } false).toArray (0, 0) _ (((HP.out.rb.setAt _).setSteps _).setX _) Try.underlying77 rfl r55 ?_) | (refine at_op (.store 77 (.tmp 6) (.tmp 176)) rfl ?_; refine wpList_store_row rfl 77 (.tmp 6) (.tmp 176) rfl (w.heap.size + 1 + 1) (rcells (p + 1) (st + 1) { s with x := k } false).toArray rfl rfl 77 _ (((HP.out.rz.other _ _ (by show w.heap.size + 1 + 1 ≠ w.heap.size + 1; omega)).other _ _ (by show w.heap.size + 1 + 1 ≠ w.heap.size + 1; omega)).other _ _ (by show w.heap.size + 1 + 1 ≠ w.heap.size + 1; omega)) r55 rfl (rcells_one _ _ _ _) ?_))
  refine bodyPost_ret (v := .agg (rcells (p + 1) (st + 1) { s with x := k } false).toArray) ?_ rfl ⟨rfl, ?_⟩
  · exact results_cell_row Try.results38 _ _ (w.heap.size + 1 + 1) 77 (rcells (p + 1) (st + 1) { s with x := k } false).toArray (0, 0) _ rfl (Blk.row (((HP.out.rz.other _ _ (by show w.heap.size + 1 + 1 ≠ w.heap.size + 1; omega)).other _ _ (by show w.heap.size + 1 + 1 ≠ w.heap.size + 1; omega)).other _ _ (by show w.heap.size + 1 + 1 ≠ w.heap.size + 1; omega)) _) Try.underlying77 rfl r55
  · exact below_setRow (((HP.out.bw.setCell (by show w.heap.size ≤ w.heap.size + 1; omega) _).setCell (by show w.heap.size ≤ w.heap.size + 1; omega) _).setCell (by show w.heap.size ≤ w.heap.size + 1; omega) _) (show w.heap.size ≤ w.heap.size + 1 + 1 by omega) _

set_option maxRecDepth 8000 in
set_option maxHeartbeats 4000000 in
theorem step_7 (t f k : Int) (p st len cap ib off : Nat) (s : St) (d : Da) (w : World) (hd : d.ok) (hp : p < len) (hlen : len ≤ 4096) (hst : st ≤ 4096) (hat : In.at ⟨7, t, f, k⟩ w ib (off + p * 4)) :
    Calls Try.prog 38 #[.slice (some ⟨ib, off, none⟩) len cap, d.val, .agg (rcells p st s false).toArray] w fun e w' => e = .returned (.agg (rcells (p + 1) (st + 1) { s with x := s.a } false).toArray) ∧ Below w.heap.size w w' := by
  have b8 : bits .and .u16 7 8 = 0 := by kernel_rfl
  have b7 : bits .and .u16 7 7 = 7 := by kernel_rfl
  unfold Da.val
  obtain ⟨X, HX, hX⟩ := step_open w d (rcells p st s false).toArray
  obtain ⟨q1, q2, q3, q4⟩ := hat.below hX.bw
  obtain ⟨Y, HY⟩ : ∃ Y, Hid (X.alloc (Obj.cells #[.int .u16 7, .int .u8 t, .int .u8 f, .int .u32 k] 56) = Y) := ⟨_, rfl⟩
  have hP : Park w d X Y ⟨7, t, f, k⟩ p st s := step_park hX HY.out
  have HP : Hid (Park w d X Y ⟨7, t, f, k⟩ p st s) := hP
  obtain ⟨i1, i2, i3, i4⟩ := hP.ci
  have c0 : X.cell? ⟨w.heap.size + 1, 0, none⟩ = some (.int .i64 p) := Blk.cell hX.rb 0
  have e0 : Y.cell? ⟨w.heap.size + 1, 0, none⟩ = some (.int .i64 p) := Blk.cell hP.rb 0
  have e1 : Y.cell? ⟨w.heap.size + 1, 1, none⟩ = some (.int .i64 st) := Blk.cell hP.rb 1
  have e2 : Y.cell? ⟨w.heap.size + 1, 2, none⟩ = some (.int .u32 s.a) := Blk.cell hP.rb 2
  have e3 : Y.cell? ⟨w.heap.size + 1, 3, none⟩ = some (.int .u32 s.x) := Blk.cell hP.rb 3
  have e20 : Y.cell? ⟨w.heap.size + 1, 20, none⟩ = some (.bool false) := Blk.cell hP.rb 20
  have e21 : Y.cell? ⟨w.heap.size + 1, 21, none⟩ = some (.int .u32 s.ans) := Blk.cell hP.rb 21
  have f0 : ∀ i, Y.frozen? ⟨w.heap.size + 1, i, none⟩ = false := fun i => Blk.f hP.rb i
  have n1 : X.heap.size ≠ w.heap.size + 1 := by have := hX.sz; omega
  have n2 : w.heap.size + 1 ≠ X.heap.size := fun h => n1 h.symm
  have hi1 : (p : Int) < (len : Int) := by omega
  clear hat hX hP hd
  generalize hL : (rcells p st s false).toArray = L at HX ⊢
  clear hL
  go_enter Try.func38, Try.ntmps38
  go_wp2_with (first | (refine switch_world HX.out ?_) | (refine switch_world HY.out ?_) | (refine at_op (.load 77 (.tmp 5)) rfl ?_; refine wpList_load_row rfl 77 (.tmp 5) rfl (w.heap.size + 1) rfl 77 (rcells (p + 1) (st + 1) { s with x := s.a } false).toArray (0, 0) _ (((HP.out.rb.setAt _).setSteps _).setX _) Try.underlying77 rfl r55 ?_) | (refine at_op (.store 77 (.tmp 6) (.tmp 176)) rfl ?_; refine wpList_store_row rfl 77 (.tmp 6) (.tmp 176) rfl (w.heap.size + 1 + 1) (rcells (p + 1) (st + 1) { s with x := s.a } false).toArray rfl rfl 77 _ (((HP.out.rz.other _ _ (by show w.heap.size + 1 + 1 ≠ w.heap.size + 1; omega)).other _ _ (by show w.heap.size + 1 + 1 ≠ w.heap.size + 1; omega)).other _ _ (by show w.heap.size + 1 + 1 ≠ w.heap.size + 1; omega)) r55 rfl (rcells_one _ _ _ _) ?_))
  refine bodyPost_ret (v := .agg (rcells (p + 1) (st + 1) { s with x := s.a } false).toArray) ?_ rfl ⟨rfl, ?_⟩
  · exact results_cell_row Try.results38 _ _ (w.heap.size + 1 + 1) 77 (rcells (p + 1) (st + 1) { s with x := s.a } false).toArray (0, 0) _ rfl (Blk.row (((HP.out.rz.other _ _ (by show w.heap.size + 1 + 1 ≠ w.heap.size + 1; omega)).other _ _ (by show w.heap.size + 1 + 1 ≠ w.heap.size + 1; omega)).other _ _ (by show w.heap.size + 1 + 1 ≠ w.heap.size + 1; omega)) _) Try.underlying77 rfl r55
  · exact below_setRow (((HP.out.bw.setCell (by show w.heap.size ≤ w.heap.size + 1; omega) _).setCell (by show w.heap.size ≤ w.heap.size + 1; omega) _).setCell (by show w.heap.size ≤ w.heap.size + 1; omega) _) (show w.heap.size ≤ w.heap.size + 1 + 1 by omega) _

set_option maxRecDepth 8000 in
set_option maxHeartbeats 4000000 in
theorem step_135 (t f k : Int) (p st len cap ib off : Nat) (s : St) (d : Da) (w : World) (hd : d.ok) (hp : p < len) (hlen : len ≤ 4096) (hst : st ≤ 4096) (hat : In.at ⟨135, t, f, k⟩ w ib (off + p * 4)) :
    Calls Try.prog 38 #[.slice (some ⟨ib, off, none⟩) len cap, d.val, .agg (rcells p st s false).toArray] w fun e w' => e = .returned (.agg (rcells (p + 1) (st + 1) { s with a := s.x } false).toArray) ∧ Below w.heap.size w w' := by
  have b8 : bits .and .u16 135 8 = 0 := by kernel_rfl
  have b7 : bits .and .u16 135 7 = 7 := by kernel_rfl
  unfold Da.val
  obtain ⟨X, HX, hX⟩ := step_open w d (rcells p st s false).toArray
  obtain ⟨q1, q2, q3, q4⟩ := hat.below hX.bw
  obtain ⟨Y, HY⟩ : ∃ Y, Hid (X.alloc (Obj.cells #[.int .u16 135, .int .u8 t, .int .u8 f, .int .u32 k] 56) = Y) := ⟨_, rfl⟩
  have hP : Park w d X Y ⟨135, t, f, k⟩ p st s := step_park hX HY.out
  have HP : Hid (Park w d X Y ⟨135, t, f, k⟩ p st s) := hP
  obtain ⟨i1, i2, i3, i4⟩ := hP.ci
  have c0 : X.cell? ⟨w.heap.size + 1, 0, none⟩ = some (.int .i64 p) := Blk.cell hX.rb 0
  have e0 : Y.cell? ⟨w.heap.size + 1, 0, none⟩ = some (.int .i64 p) := Blk.cell hP.rb 0
  have e1 : Y.cell? ⟨w.heap.size + 1, 1, none⟩ = some (.int .i64 st) := Blk.cell hP.rb 1
  have e2 : Y.cell? ⟨w.heap.size + 1, 2, none⟩ = some (.int .u32 s.a) := Blk.cell hP.rb 2
  have e3 : Y.cell? ⟨w.heap.size + 1, 3, none⟩ = some (.int .u32 s.x) := Blk.cell hP.rb 3
  have e20 : Y.cell? ⟨w.heap.size + 1, 20, none⟩ = some (.bool false) := Blk.cell hP.rb 20
  have e21 : Y.cell? ⟨w.heap.size + 1, 21, none⟩ = some (.int .u32 s.ans) := Blk.cell hP.rb 21
  have f0 : ∀ i, Y.frozen? ⟨w.heap.size + 1, i, none⟩ = false := fun i => Blk.f hP.rb i
  have n1 : X.heap.size ≠ w.heap.size + 1 := by have := hX.sz; omega
  have n2 : w.heap.size + 1 ≠ X.heap.size := fun h => n1 h.symm
  have hi1 : (p : Int) < (len : Int) := by omega
  clear hat hX hP hd
  generalize hL : (rcells p st s false).toArray = L at HX ⊢
  clear hL
  go_enter Try.func38, Try.ntmps38
  go_wp2_with (first | (refine switch_world HX.out ?_) | (refine switch_world HY.out ?_) | (refine at_op (.load 77 (.tmp 5)) rfl ?_; refine wpList_load_row rfl 77 (.tmp 5) rfl (w.heap.size + 1) rfl 77 (rcells (p + 1) (st + 1) { s with a := s.x } false).toArray (0, 0) _ (((HP.out.rb.setAt _).setSteps _).setA _) Try.underlying77 rfl r55 ?_) | (refine at_op (.store 77 (.tmp 6) (.tmp 176)) rfl ?_; refine wpList_store_row rfl 77 (.tmp 6) (.tmp 176) rfl (w.heap.size + 1 + 1) (rcells (p + 1) (st + 1) { s with a := s.x } false).toArray rfl rfl 77 _ (((HP.out.rz.other _ _ (by show w.heap.size + 1 + 1 ≠ w.heap.size + 1; omega)).other _ _ (by show w.heap.size + 1 + 1 ≠ w.heap.size + 1; omega)).other _ _ (by show w.heap.size + 1 + 1 ≠ w.heap.size + 1; omega)) r55 rfl (rcells_one _ _ _ _) ?_))
  refine bodyPost_ret (v := .agg (rcells (p + 1) (st + 1) { s with a := s.x } false).toArray) ?_ rfl ⟨rfl, ?_⟩
  · exact results_cell_row Try.results38 _ _ (w.heap.size + 1 + 1) 77 (rcells (p + 1) (st + 1) { s with a := s.x } false).toArray (0, 0) _ rfl (Blk.row (((HP.out.rz.other _ _ (by show w.heap.size + 1 + 1 ≠ w.heap.size + 1; omega)).other _ _ (by show w.heap.size + 1 + 1 ≠ w.heap.size + 1; omega)).other _ _ (by show w.heap.size + 1 + 1 ≠ w.heap.size + 1; omega)) _) Try.underlying77 rfl r55
  · exact below_setRow (((HP.out.bw.setCell (by show w.heap.size ≤ w.heap.size + 1; omega) _).setCell (by show w.heap.size ≤ w.heap.size + 1; omega) _).setCell (by show w.heap.size ≤ w.heap.size + 1; omega) _) (show w.heap.size ≤ w.heap.size + 1 + 1 by omega) _

set_option maxRecDepth 8000 in
set_option maxHeartbeats 4000000 in
theorem step_132 (t f k : Int) (p st len cap ib off : Nat) (s : St) (d : Da) (w : World) (hd : d.ok) (hp : p < len) (hlen : len ≤ 4096) (hst : st ≤ 4096) (hat : In.at ⟨132, t, f, k⟩ w ib (off + p * 4)) :
    Calls Try.prog 38 #[.slice (some ⟨ib, off, none⟩) len cap, d.val, .agg (rcells p st s false).toArray] w fun e w' => e = .returned (.agg (rcells (p + 1) (st + 1) { s with a := (-s.a) % 4294967296 } false).toArray) ∧ Below w.heap.size w w' := by
  have b8 : bits .and .u16 132 8 = 0 := by kernel_rfl
  have b7 : bits .and .u16 132 7 = 4 := by kernel_rfl
  have hng : (0 - s.a) % 4294967296 = (-s.a) % 4294967296 := by rw [Int.zero_sub]
  unfold Da.val
  obtain ⟨X, HX, hX⟩ := step_open w d (rcells p st s false).toArray
  obtain ⟨q1, q2, q3, q4⟩ := hat.below hX.bw
  obtain ⟨Y, HY⟩ : ∃ Y, Hid (X.alloc (Obj.cells #[.int .u16 132, .int .u8 t, .int .u8 f, .int .u32 k] 56) = Y) := ⟨_, rfl⟩
  have hP : Park w d X Y ⟨132, t, f, k⟩ p st s := step_park hX HY.out
  have HP : Hid (Park w d X Y ⟨132, t, f, k⟩ p st s) := hP
  obtain ⟨i1, i2, i3, i4⟩ := hP.ci
  have c0 : X.cell? ⟨w.heap.size + 1, 0, none⟩ = some (.int .i64 p) := Blk.cell hX.rb 0
  have e0 : Y.cell? ⟨w.heap.size + 1, 0, none⟩ = some (.int .i64 p) := Blk.cell hP.rb 0
  have e1 : Y.cell? ⟨w.heap.size + 1, 1, none⟩ = some (.int .i64 st) := Blk.cell hP.rb 1
  have e2 : Y.cell? ⟨w.heap.size + 1, 2, none⟩ = some (.int .u32 s.a) := Blk.cell hP.rb 2
  have e3 : Y.cell? ⟨w.heap.size + 1, 3, none⟩ = some (.int .u32 s.x) := Blk.cell hP.rb 3
  have e20 : Y.cell? ⟨w.heap.size + 1, 20, none⟩ = some (.bool false) := Blk.cell hP.rb 20
  have e21 : Y.cell? ⟨w.heap.size + 1, 21, none⟩ = some (.int .u32 s.ans) := Blk.cell hP.rb 21
  have f0 : ∀ i, Y.frozen? ⟨w.heap.size + 1, i, none⟩ = false := fun i => Blk.f hP.rb i
  have n1 : X.heap.size ≠ w.heap.size + 1 := by have := hX.sz; omega
  have n2 : w.heap.size + 1 ≠ X.heap.size := fun h => n1 h.symm
  have hi1 : (p : Int) < (len : Int) := by omega
  clear hat hX hP hd
  generalize hL : (rcells p st s false).toArray = L at HX ⊢
  clear hL
  go_enter Try.func38, Try.ntmps38
  go_wp2_with (first | (refine switch_world HX.out ?_) | (refine switch_world HY.out ?_) | (refine at_op (.load 77 (.tmp 5)) rfl ?_; refine wpList_load_row rfl 77 (.tmp 5) rfl (w.heap.size + 1) rfl 77 (rcells (p + 1) (st + 1) { s with a := (-s.a) % 4294967296 } false).toArray (0, 0) _ (((HP.out.rb.setAt _).setSteps _).setA _) Try.underlying77 rfl r55 ?_) | (refine at_op (.store 77 (.tmp 6) (.tmp 176)) rfl ?_; refine wpList_store_row rfl 77 (.tmp 6) (.tmp 176) rfl (w.heap.size + 1 + 1) (rcells (p + 1) (st + 1) { s with a := (-s.a) % 4294967296 } false).toArray rfl rfl 77 _ (((HP.out.rz.other _ _ (by show w.heap.size + 1 + 1 ≠ w.heap.size + 1; omega)).other _ _ (by show w.heap.size + 1 + 1 ≠ w.heap.size + 1; omega)).other _ _ (by show w.heap.size + 1 + 1 ≠ w.heap.size + 1; omega)) r55 rfl (rcells_one _ _ _ _) ?_))
  refine bodyPost_ret (v := .agg (rcells (p + 1) (st + 1) { s with a := (-s.a) % 4294967296 } false).toArray) ?_ rfl ⟨rfl, ?_⟩
  · exact results_cell_row Try.results38 _ _ (w.heap.size + 1 + 1) 77 (rcells (p + 1) (st + 1) { s with a := (-s.a) % 4294967296 } false).toArray (0, 0) _ rfl (Blk.row (((HP.out.rz.other _ _ (by show w.heap.size + 1 + 1 ≠ w.heap.size + 1; omega)).other _ _ (by show w.heap.size + 1 + 1 ≠ w.heap.size + 1; omega)).other _ _ (by show w.heap.size + 1 + 1 ≠ w.heap.size + 1; omega)) _) Try.underlying77 rfl r55
  · exact below_setRow (((HP.out.bw.setCell (by show w.heap.size ≤ w.heap.size + 1; omega) _).setCell (by show w.heap.size ≤ w.heap.size + 1; omega) _).setCell (by show w.heap.size ≤ w.heap.size + 1; omega) _) (show w.heap.size ≤ w.heap.size + 1 + 1 by omega) _

end Go.Proofs.Ytamioifoemklfaa.V
