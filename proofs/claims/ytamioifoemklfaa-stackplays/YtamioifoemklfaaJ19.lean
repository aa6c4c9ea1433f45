/-
  Texts of this seat, joined: VSEnds.
-/
import Derived.Test.YtamioifoemklfaaJ17

namespace Go.Proofs.Ytamioifoemklfaa.V
open Go.RowKit
set_option linter.unusedVariables false

set_option maxRecDepth 8000 in
set_option maxHeartbeats 4000000 in
theorem step_5 (t f k : Int) (p st len cap ib off : Nat) (s : St) (d : Da) (w : World) (hd : d.ok) (hp : p < len) (hlen : len ≤ 4096) (hst : st ≤ 4096) (hk : U32 k) (hat : In.at ⟨5, t, f, k⟩ w ib (off + p * 4)) :
    Calls Try.prog 38 #[.slice (some ⟨ib, off, none⟩) len cap, d.val, .agg (rcells p st s false).toArray] w fun e w' => e = .returned (.agg (rcells (p + 1 + k) (st + 1) s false).toArray) ∧ Below w.heap.size w w' := by
  have b8 : bits .and .u16 5 8 = 0 := by kernel_rfl
  have b7 : bits .and .u16 5 7 = 5 := by kernel_rfl
  unfold U32 at hk
  have wk : IntKind.i64.wrap k = k := by rw [IntKind.wrap_i64]; omega
  unfold Da.val
  obtain ⟨X, HX, hX⟩ := step_open w d (rcells p st s false).toArray
  obtain ⟨q1, q2, q3, q4⟩ := hat.below hX.bw
  obtain ⟨Y, HY⟩ : ∃ Y, Hid (X.alloc (Obj.cells #[.int .u16 5, .int .u8 t, .int .u8 f, .int .u32 k] 56) = Y) := ⟨_, rfl⟩
  have hP : Park w d X Y ⟨5, t, f, k⟩ p st s := step_park hX HY.out
  have HP : Hid (Park w d X Y ⟨5, t, f, k⟩ p st s) := hP
  obtain ⟨i1, i2, i3, i4⟩ := hP.ci
  have c0 : X.cell? ⟨w.heap.size + 1, 0, none⟩ = some (.int .i64 p) := Blk.cell hX.rb 0
  have e0 : Y.cell? ⟨w.heap.size + 1, 0, none⟩ = some (.int .i64 p) := Blk.cell hP.rb 0
  have e1 : Y.cell? ⟨w.heap.size + 1, 1, none⟩ = some (.int .i64 st) := Blk.cell hP.rb 1
  have e2 : Y.cell? ⟨w.heap.size + 1, 2, none⟩ = some (.int .u32 s.a) := Blk.cell hP.rb 2
  have e3 : Y.cell? ⟨w.heap.size + 1, 3, none⟩ = some (.int .u32 s.x) := Blk.cell hP.rb 3
  have e20 : Y.cell? ⟨w.heap.size + 1, 20, none⟩ = some (.bool false) := Blk.cell hP.rb 20
  have e21 : Y.cell? ⟨w.heap.size + 1, 21, none⟩ = some (.int .u32 s.ans) := Blk.cell hP.rb 21
  have f0 : ∀ i, Y.frozen? ⟨w.heap.size + 1, i, none⟩ = false := fun i => Blk.f hP.rb i
  have n1 : X.heap.size ≠ w.heap.size + 1 := by have := hX.sz; omega
  have n2 : w.heap.size + 1 ≠ X.heap.size := fun h => n1 h.symm
  have hi1 : (p : Int) < (len : Int) := by omega
  clear hat hX hP hd
  generalize hL : (rcells p st s false).toArray = L at HX ⊢
  clear hL
  go_enter Try.func38, Try.ntmps38
  go_wp2_with (first | (refine switch_world HX.out ?_) | (refine switch_world HY.out ?_) | (refine at_op (.load 77 (.tmp 5)) rfl ?_; refine wpList_load_row rfl 77 (.tmp 5) rfl (w.heap.size + 1) rfl 77 (rcells (p + 1 + k) (st + 1) s false).toArray (0, 0) _ (((HP.out.rb.setAt _).setSteps _).setAt _) Try.underlying77 rfl r55 ?_) | (refine at_op (.store 77 (.tmp 6) (.tmp 176)) rfl ?_; refine wpList_store_row rfl 77 (.tmp 6) (.tmp 176) rfl (w.heap.size + 1 + 1) (rcells (p + 1 + k) (st + 1) s false).toArray rfl rfl 77 _ (((HP.out.rz.other _ _ (by show w.heap.size + 1 + 1 ≠ w.heap.size + 1; omega)).other _ _ (by show w.heap.size + 1 + 1 ≠ w.heap.size + 1; omega)).other _ _ (by show w.heap.size + 1 + 1 ≠ w.heap.size + 1; omega)) r55 rfl (rcells_one _ _ _ _) ?_))
  refine bodyPost_ret (v := .agg (rcells (p + 1 + k) (st + 1) s false).toArray) ?_ rfl ⟨rfl, ?_⟩
  · exact results_cell_row Try.results38 _ _ (w.heap.size + 1 + 1) 77 (rcells (p + 1 + k) (st + 1) s false).toArray (0, 0) _ rfl (Blk.row (((HP.out.rz.other _ _ (by show w.heap.size + 1 + 1 ≠ w.heap.size + 1; omega)).other _ _ (by show w.heap.size + 1 + 1 ≠ w.heap.size + 1; omega)).other _ _ (by show w.heap.size + 1 + 1 ≠ w.heap.size + 1; omega)) _) Try.underlying77 rfl r55
  · exact below_setRow (((HP.out.bw.setCell (by show w.heap.size ≤ w.heap.size + 1; omega) _).setCell (by show w.heap.size ≤ w.heap.size + 1; omega) _).setCell (by show w.heap.size ≤ w.heap.size + 1; omega) _) (show w.heap.size ≤ w.heap.size + 1 + 1 by omega) _

set_option maxRecDepth 8000 in
set_option maxHeartbeats 4000000 in
theorem step_6 (t f k : Int) (p st len cap ib off : Nat) (s : St) (d : Da) (w : World) (hd : d.ok) (hp : p < len) (hlen : len ≤ 4096) (hst : st ≤ 4096) (hat : In.at ⟨6, t, f, k⟩ w ib (off + p * 4)) :
    Calls Try.prog 38 #[.slice (some ⟨ib, off, none⟩) len cap, d.val, .agg (rcells p st s false).toArray] w fun e w' => e = .returned (.agg (rcells (p + 1) (st + 1) { s with ans := k } true).toArray) ∧ Below w.heap.size w w' := by
  have b8 : bits .and .u16 6 8 = 0 := by kernel_rfl
  have b7 : bits .and .u16 6 7 = 6 := by kernel_rfl
  unfold Da.val
  obtain ⟨X, HX, hX⟩ := step_open w d (rcells p st s false).toArray
  obtain ⟨q1, q2, q3, q4⟩ := hat.below hX.bw
  obtain ⟨Y, HY⟩ : ∃ Y, Hid (X.alloc (Obj.cells #[.int .u16 6, .int .u8 t, .int .u8 f, .int .u32 k] 56) = Y) := ⟨_, rfl⟩
  have hP : Park w d X Y ⟨6, t, f, k⟩ p st s := step_park hX HY.out
  have HP : Hid (Park w d X Y ⟨6, t, f, k⟩ p st s) := hP
  obtain ⟨i1, i2, i3, i4⟩ := hP.ci
  have c0 : X.cell? ⟨w.heap.size + 1, 0, none⟩ = some (.int .i64 p) := Blk.cell hX.rb 0
  have e0 : Y.cell? ⟨w.heap.size + 1, 0, none⟩ = some (.int .i64 p) := Blk.cell hP.rb 0
  have e1 : Y.cell? ⟨w.heap.size + 1, 1, none⟩ = some (.int .i64 st) := Blk.cell hP.rb 1
  have e2 : Y.cell? ⟨w.heap.size + 1, 2, none⟩ = some (.int .u32 s.a) := Blk.cell hP.rb 2
  have e3 : Y.cell? ⟨w.heap.size + 1, 3, none⟩ = some (.int .u32 s.x) := Blk.cell hP.rb 3
  have e20 : Y.cell? ⟨w.heap.size + 1, 20, none⟩ = some (.bool false) := Blk.cell hP.rb 20
  have e21 : Y.cell? ⟨w.heap.size + 1, 21, none⟩ = some (.int .u32 s.ans) := Blk.cell hP.rb 21
  have f0 : ∀ i, Y.frozen? ⟨w.heap.size + 1, i, none⟩ = false := fun i => Blk.f hP.rb i
  have n1 : X.heap.size ≠ w.heap.size + 1 := by have := hX.sz; omega
  have n2 : w.heap.size + 1 ≠ X.heap.size := fun h => n1 h.symm
  have hi1 : (p : Int) < (len : Int) := by omega
  clear hat hX hP hd
  generalize hL : (rcells p st s false).toArray = L at HX ⊢
  clear hL
  go_enter Try.func38, Try.ntmps38
  go_wp2_with (first | (refine switch_world HX.out ?_) | (refine switch_world HY.out ?_) | (refine at_op (.load 77 (.tmp 5)) rfl ?_; refine wpList_load_row rfl 77 (.tmp 5) rfl (w.heap.size + 1) rfl 77 (rcells (p + 1) (st + 1) { s with ans := k } true).toArray (0, 0) _ ((((HP.out.rb.setAt _).setSteps _).setOver _).setAns _) Try.underlying77 rfl r55 ?_) | (refine at_op (.store 77 (.tmp 6) (.tmp 176)) rfl ?_; refine wpList_store_row rfl 77 (.tmp 6) (.tmp 176) rfl (w.heap.size + 1 + 1) (rcells (p + 1) (st + 1) { s with ans := k } true).toArray rfl rfl 77 _ ((((HP.out.rz.other _ _ (by show w.heap.size + 1 + 1 ≠ w.heap.size + 1; omega)).other _ _ (by show w.heap.size + 1 + 1 ≠ w.heap.size + 1; omega)).other _ _ (by show w.heap.size + 1 + 1 ≠ w.heap.size + 1; omega)).other _ _ (by show w.heap.size + 1 + 1 ≠ w.heap.size + 1; omega)) r55 rfl (rcells_one _ _ _ _) ?_))
  refine bodyPost_ret (v := .agg (rcells (p + 1) (st + 1) { s with ans := k } true).toArray) ?_ rfl ⟨rfl, ?_⟩
  · exact results_cell_row Try.results38 _ _ (w.heap.size + 1 + 1) 77 (rcells (p + 1) (st + 1) { s with ans := k } true).toArray (0, 0) _ rfl (Blk.row ((((HP.out.rz.other _ _ (by show w.heap.size + 1 + 1 ≠ w.heap.size + 1; omega)).other _ _ (by show w.heap.size + 1 + 1 ≠ w.heap.size + 1; omega)).other _ _ (by show w.heap.size + 1 + 1 ≠ w.heap.size + 1; omega)).other _ _ (by show w.heap.size + 1 + 1 ≠ w.heap.size + 1; omega)) _) Try.underlying77 rfl r55
  · exact below_setRow ((((HP.out.bw.setCell (by show w.heap.size ≤ w.heap.size + 1; omega) _).setCell (by show w.heap.size ≤ w.heap.size + 1; omega) _).setCell (by show w.heap.size ≤ w.heap.size + 1; omega) _).setCell (by show w.heap.size ≤ w.heap.size + 1; omega) _) (show w.heap.size ≤ w.heap.size + 1 + 1 by omega) _

set_option maxRecDepth 8000 in
set_option maxHeartbeats 4000000 in
theorem step_22 (t f k : Int) (p st len cap ib off : Nat) (s : St) (d : Da) (w : World) (hd : d.ok) (hp : p < len) (hlen : len ≤ 4096) (hst : st ≤ 4096) (hat : In.at ⟨22, t, f, k⟩ w ib (off + p * 4)) :
    Calls Try.prog 38 #[.slice (some ⟨ib, off, none⟩) len cap, d.val, .agg (rcells p st s false).toArray] w fun e w' => e = .returned (.agg (rcells (p + 1) (st + 1) { s with ans := s.a } true).toArray) ∧ Below w.heap.size w w' := by
  have b8 : bits .and .u16 22 8 = 0 := by kernel_rfl
  have b7 : bits .and .u16 22 7 = 6 := by kernel_rfl
  unfold Da.val
  obtain ⟨X, HX, hX⟩ := step_open w d (rcells p st s false).toArray
  obtain ⟨q1, q2, q3, q4⟩ := hat.below hX.bw
  obtain ⟨Y, HY⟩ : ∃ Y, Hid (X.alloc (Obj.cells #[.int .u16 22, .int .u8 t, .int .u8 f, .int .u32 k] 56) = Y) := ⟨_, rfl⟩
  have hP : Park w d X Y ⟨22, t, f, k⟩ p st s := step_park hX HY.out
  have HP : Hid (Park w d X Y ⟨22, t, f, k⟩ p st s) := hP
  obtain ⟨i1, i2, i3, i4⟩ := hP.ci
  have c0 : X.cell? ⟨w.heap.size + 1, 0, none⟩ = some (.int .i64 p) := Blk.cell hX.rb 0
  have e0 : Y.cell? ⟨w.heap.size + 1, 0, none⟩ = some (.int .i64 p) := Blk.cell hP.rb 0
  have e1 : Y.cell? ⟨w.heap.size + 1, 1, none⟩ = some (.int .i64 st) := Blk.cell hP.rb 1
  have e2 : Y.cell? ⟨w.heap.size + 1, 2, none⟩ = some (.int .u32 s.a) := Blk.cell hP.rb 2
  have e3 : Y.cell? ⟨w.heap.size + 1, 3, none⟩ = some (.int .u32 s.x) := Blk.cell hP.rb 3
  have e20 : Y.cell? ⟨w.heap.size + 1, 20, none⟩ = some (.bool false) := Blk.cell hP.rb 20
  have e21 : Y.cell? ⟨w.heap.size + 1, 21, none⟩ = some (.int .u32 s.ans) := Blk.cell hP.rb 21
  have f0 : ∀ i, Y.frozen? ⟨w.heap.size + 1, i, none⟩ = false := fun i => Blk.f hP.rb i
  have n1 : X.heap.size ≠ w.heap.size + 1 := by have := hX.sz; omega
  have n2 : w.heap.size + 1 ≠ X.heap.size := fun h => n1 h.symm
  have hi1 : (p : Int) < (len : Int) := by omega
  clear hat hX hP hd
  generalize hL : (rcells p st s false).toArray = L at HX ⊢
  clear hL
  go_enter Try.func38, Try.ntmps38
  go_wp2_with (first | (refine switch_world HX.out ?_) | (refine switch_world HY.out ?_) | (refine at_op (.load 77 (.tmp 5)) rfl ?_; refine wpList_load_row rfl 77 (.tmp 5) rfl (w.heap.size + 1) rfl 77 (rcells (p + 1) (st + 1) { s with ans := s.a } true).toArray (0, 0) _ ((((HP.out.rb.setAt _).setSteps _).setOver _).setAns _) Try.underlying77 rfl r55 ?_) | (refine at_op (.store 77 (.tmp 6) (.tmp 176)) rfl ?_; refine wpList_store_row rfl 77 (.tmp 6) (.tmp 176) rfl (w.heap.size + 1 + 1) (rcells (p + 1) (st + 1) { s with ans := s.a } true).toArray rfl rfl 77 _ ((((HP.out.rz.other _ _ (by show w.heap.size + 1 + 1 ≠ w.heap.size + 1; omega)).other _ _ (by show w.heap.size + 1 + 1 ≠ w.heap.size + 1; omega)).other _ _ (by show w.heap.size + 1 + 1 ≠ w.heap.size + 1; omega)).other _ _ (by show w.heap.size + 1 + 1 ≠ w.heap.size + 1; omega)) r55 rfl (rcells_one _ _ _ _) ?_))
  refine bodyPost_ret (v := .agg (rcells (p + 1) (st + 1) { s with ans := s.a } true).toArray) ?_ rfl ⟨rfl, ?_⟩
  · exact results_cell_row Try.results38 _ _ (w.heap.size + 1 + 1) 77 (rcells (p + 1) (st + 1) { s with ans := s.a } true).toArray (0, 0) _ rfl (Blk.row ((((HP.out.rz.other _ _ (by show w.heap.size + 1 + 1 ≠ w.heap.size + 1; omega)).other _ _ (by show w.heap.size + 1 + 1 ≠ w.heap.size + 1; omega)).other _ _ (by show w.heap.size + 1 + 1 ≠ w.heap.size + 1; omega)).other _ _ (by show w.heap.size + 1 + 1 ≠ w.heap.size + 1; omega)) _) Try.underlying77 rfl r55
  · exact below_setRow ((((HP.out.bw.setCell (by show w.heap.size ≤ w.heap.size + 1; omega) _).setCell (by show w.heap.size ≤ w.heap.size + 1; omega) _).setCell (by show w.heap.size ≤ w.heap.size + 1; omega) _).setCell (by show w.heap.size ≤ w.heap.size + 1; omega) _) (show w.heap.size ≤ w.heap.size + 1 + 1 by omega) _

set_option maxRecDepth 8000 in
set_option maxHeartbeats 4000000 in
theorem step_32 (t f k : Int) (p st len cap ib off : Nat) (s : St) (d : Da) (w : World) (hd : d.ok) (hp : p < len) (hlen : len ≤ 4096) (hst : st ≤ 4096) (hk : U32 k) (hat : In.at ⟨32, t, f, k⟩ w ib (off + p * 4)) :
    Calls Try.prog 38 #[.slice (some ⟨ib, off, none⟩) len cap, d.val, .agg (rcells p st s false).toArray] w fun e w' => e = .returned (.agg (rcells (p + 1) (st + 1) { s with a := ldv d k } false).toArray) ∧ Below w.heap.size w w' := by
  have b8 : bits .and .u16 32 8 = 0 := by kernel_rfl
  have b7 : bits .and .u16 32 7 = 0 := by kernel_rfl
  have HQ : Hid (∀ X : World, Calls Try.prog 50 #[.agg d.cells.toArray, .int .u32 k] X fun e w' => e = .returned (.tuple #[.int .u32 (ldv d k), .int .i64 (lde k)]) ∧ Below X.heap.size X w') := fun X => refLoad_any d k X hd hk
  have HSD : Hid ((Try.prog.info? 27).map (·.size) = some d.cells.toArray.size) := by unfold Hid; rw [Try.size27]; simp [d.cells_len hd]
  unfold Da.val
  obtain ⟨X, HX, hX⟩ := step_open w d (rcells p st s false).toArray
  obtain ⟨q1, q2, q3, q4⟩ := hat.below hX.bw
  obtain ⟨Y, HY⟩ : ∃ Y, Hid (X.alloc (Obj.cells #[.int .u16 32, .int .u8 t, .int .u8 f, .int .u32 k] 56) = Y) := ⟨_, rfl⟩
  have hP : Park w d X Y ⟨32, t, f, k⟩ p st s := step_park hX HY.out
  have HP : Hid (Park w d X Y ⟨32, t, f, k⟩ p st s) := hP
  obtain ⟨i1, i2, i3, i4⟩ := hP.ci
  have c0 : X.cell? ⟨w.heap.size + 1, 0, none⟩ = some (.int .i64 p) := Blk.cell hX.rb 0
  have e0 : Y.cell? ⟨w.heap.size + 1, 0, none⟩ = some (.int .i64 p) := Blk.cell hP.rb 0
  have e1 : Y.cell? ⟨w.heap.size + 1, 1, none⟩ = some (.int .i64 st) := Blk.cell hP.rb 1
  have e2 : Y.cell? ⟨w.heap.size + 1, 2, none⟩ = some (.int .u32 s.a) := Blk.cell hP.rb 2
  have e3 : Y.cell? ⟨w.heap.size + 1, 3, none⟩ = some (.int .u32 s.x) := Blk.cell hP.rb 3
  have e20 : Y.cell? ⟨w.heap.size + 1, 20, none⟩ = some (.bool false) := Blk.cell hP.rb 20
  have e21 : Y.cell? ⟨w.heap.size + 1, 21, none⟩ = some (.int .u32 s.ans) := Blk.cell hP.rb 21
  have f0 : ∀ i, Y.frozen? ⟨w.heap.size + 1, i, none⟩ = false := fun i => Blk.f hP.rb i
  have n1 : X.heap.size ≠ w.heap.size + 1 := by have := hX.sz; omega
  have n2 : w.heap.size + 1 ≠ X.heap.size := fun h => n1 h.symm
  have hi1 : (p : Int) < (len : Int) := by omega
  clear hat hX hP hd
  generalize hL : (rcells p st s false).toArray = L at HX ⊢
  clear hL
  go_enter Try.func38, Try.ntmps38
  go_wp2_with (first | (refine switch_world HX.out ?_) | (refine switch_world HY.out ?_) | (refine at_op (.load 77 (.tmp 5)) rfl ?_; refine wpList_load_row rfl 77 (.tmp 5) rfl (w.heap.size + 1) rfl 77 (rcells (p + 1) (st + 1) { s with a := ldv d k } false).toArray (0, 0) _ (HP2.out.rb.setA _) Try.underlying77 rfl r55 ?_) | (refine at_op (.store 77 (.tmp 6) (.tmp 176)) rfl ?_; refine wpList_store_row rfl 77 (.tmp 6) (.tmp 176) rfl (w.heap.size + 1 + 1) (rcells (p + 1) (st + 1) { s with a := ldv d k } false).toArray rfl rfl 77 _ (HP2.out.rz.other _ _ (by show w.heap.size + 1 + 1 ≠ w.heap.size + 1; omega)) r55 rfl (rcells_one _ _ _ _) ?_) | (refine at_op (.load 27 (.tmp 4)) rfl ?_; refine wpList_load_row rfl 27 (.tmp 4) rfl w.heap.size rfl 27 d.cells.toArray (0, 0) _ ((HP.out.rd.other _ _ (by show w.heap.size ≠ w.heap.size + 1; omega)).other _ _ (by show w.heap.size ≠ w.heap.size + 1; omega)) Try.underlying27 rfl HSD.out ?_) | (go_at_call 50; refine (HQ.out _).mono ?_; rintro e w2 ⟨rfl, b2⟩; have HP2 : Hid (Parked w w2 (p + 1) (st + 1) s) := park_over HP.out b2; have g2 : w2.cell? ⟨w.heap.size + 1, 2, none⟩ = some (.int .u32 s.a) := Blk.cell HP2.out.rb 2; have g3 : w2.frozen? ⟨w.heap.size + 1, 2, none⟩ = false := Blk.f HP2.out.rb 2))
  refine bodyPost_ret (v := .agg (rcells (p + 1) (st + 1) { s with a := ldv d k } false).toArray) ?_ rfl ⟨rfl, ?_⟩
  · exact results_cell_row Try.results38 _ _ (w.heap.size + 1 + 1) 77 (rcells (p + 1) (st + 1) { s with a := ldv d k } false).toArray (0, 0) _ rfl (Blk.row (HP2.out.rz.other _ _ (by show w.heap.size + 1 + 1 ≠ w.heap.size + 1; omega)) _) Try.underlying77 rfl r55
  · exact below_setRow (HP2.out.bw.setCell (by show w.heap.size ≤ w.heap.size + 1; omega) _) (show w.heap.size ≤ w.heap.size + 1 + 1 by omega) _

end Go.Proofs.Ytamioifoemklfaa.V
