/-
  Texts of this seat, joined: VSJump1.
-/
import Derived.Test.YtamioifoemklfaaJ17

namespace Go.Proofs.Ytamioifoemklfaa.V
open Go.RowKit
set_option linter.unusedVariables false

set_option maxRecDepth 8000 in
set_option maxHeartbeats 4000000 in
theorem step_21_true (t f k : Int) (p st len cap ib off : Nat) (s : St) (d : Da) (w : World) (hd : d.ok) (hp : p < len) (hlen : len ≤ 4096) (hst : st ≤ 4096) (ht : 0 ≤ t ∧ t ≤ 255) (hb : holdsV 21 s.a k = true) (hat : In.at ⟨21, t, f, k⟩ w ib (off + p * 4)) :
    Calls Try.prog 38 #[.slice (some ⟨ib, off, none⟩) len cap, d.val, .agg (rcells p st s false).toArray] w fun e w' => e = .returned (.agg (rcells (p + 1 + t) (st + 1) s false).toArray) ∧ Below w.heap.size w w' := by
  have b8 : bits .and .u16 21 8 = 0 := by kernel_rfl
  have b7 : bits .and .u16 21 7 = 5 := by kernel_rfl
  have HQ : Hid (∀ X : World, Calls Try.prog 51 #[.int .u16 21, .int .u32 s.a, .int .u32 k] X fun e w' => e = .returned (.bool true) ∧ w' = X) := fun X => hb ▸ refHolds_any 21 s.a k X
  have wt : IntKind.i64.wrap t = t := by rw [IntKind.wrap_i64]; omega
  unfold Da.val
  obtain ⟨X, HX, hX⟩ := step_open w d (rcells p st s false).toArray
  obtain ⟨q1, q2, q3, q4⟩ := hat.below hX.bw
  obtain ⟨Y, HY⟩ : ∃ Y, Hid (X.alloc (Obj.cells #[.int .u16 21, .int .u8 t, .int .u8 f, .int .u32 k] 56) = Y) := ⟨_, rfl⟩
  have hP : Park w d X Y ⟨21, t, f, k⟩ p st s := step_park hX HY.out
  have HP : Hid (Park w d X Y ⟨21, t, f, k⟩ p st s) := hP
  obtain ⟨i1, i2, i3, i4⟩ := hP.ci
  have c0 : X.cell? ⟨w.heap.size + 1, 0, none⟩ = some (.int .i64 p) := Blk.cell hX.rb 0
  have e0 : Y.cell? ⟨w.heap.size + 1, 0, none⟩ = some (.int .i64 p) := Blk.cell hP.rb 0
  have e1 : Y.cell? ⟨w.heap.size + 1, 1, none⟩ = some (.int .i64 st) := Blk.cell hP.rb 1
  have e2 : Y.cell? ⟨w.heap.size + 1, 2, none⟩ = some (.int .u32 s.a) := Blk.cell hP.rb 2
  have e3 : Y.cell? ⟨w.heap.size + 1, 3, none⟩ = some (.int .u32 s.x) := Blk.cell hP.rb 3
  have e20 : Y.cell? ⟨w.heap.size + 1, 20, none⟩ = some (.bool false) := Blk.cell hP.rb 20
  have e21 : Y.cell? ⟨w.heap.size + 1, 21, none⟩ = some (.int .u32 s.ans) := Blk.cell hP.rb 21
  have f0 : ∀ i, Y.frozen? ⟨w.heap.size + 1, i, none⟩ = false := fun i => Blk.f hP.rb i
  have n1 : X.heap.size ≠ w.heap.size + 1 := by have := hX.sz; omega
  have n2 : w.heap.size + 1 ≠ X.heap.size := fun h => n1 h.symm
  have hi1 : (p : Int) < (len : Int) := by omega
  clear hb
  clear hat hX hP hd
  generalize hL : (rcells p st s false).toArray = L at HX ⊢
  clear hL
  go_enter Try.func38, Try.ntmps38
  go_wp2_with (first | (refine switch_world HX.out ?_) | (refine switch_world HY.out ?_) | (refine at_op (.load 77 (.tmp 5)) rfl ?_; refine wpList_load_row rfl 77 (.tmp 5) rfl (w.heap.size + 1) rfl 77 (rcells (p + 1 + t) (st + 1) s false).toArray (0, 0) _ (((HP.out.rb.setAt _).setSteps _).setAt _) Try.underlying77 rfl r55 ?_) | (refine at_op (.store 77 (.tmp 6) (.tmp 176)) rfl ?_; refine wpList_store_row rfl 77 (.tmp 6) (.tmp 176) rfl (w.heap.size + 1 + 1) (rcells (p + 1 + t) (st + 1) s false).toArray rfl rfl 77 _ (((HP.out.rz.other _ _ (by show w.heap.size + 1 + 1 ≠ w.heap.size + 1; omega)).other _ _ (by show w.heap.size + 1 + 1 ≠ w.heap.size + 1; omega)).other _ _ (by show w.heap.size + 1 + 1 ≠ w.heap.size + 1; omega)) r55 rfl (rcells_one _ _ _ _) ?_) | (go_at_call 51; refine (HQ.out _).mono ?_; rintro e w2 ⟨rfl, rfl⟩))
  refine bodyPost_ret (v := .agg (rcells (p + 1 + t) (st + 1) s false).toArray) ?_ rfl ⟨rfl, ?_⟩
  · exact results_cell_row Try.results38 _ _ (w.heap.size + 1 + 1) 77 (rcells (p + 1 + t) (st + 1) s false).toArray (0, 0) _ rfl (Blk.row (((HP.out.rz.other _ _ (by show w.heap.size + 1 + 1 ≠ w.heap.size + 1; omega)).other _ _ (by show w.heap.size + 1 + 1 ≠ w.heap.size + 1; omega)).other _ _ (by show w.heap.size + 1 + 1 ≠ w.heap.size + 1; omega)) _) Try.underlying77 rfl r55
  · exact below_setRow (((HP.out.bw.setCell (by show w.heap.size ≤ w.heap.size + 1; omega) _).setCell (by show w.heap.size ≤ w.heap.size + 1; omega) _).setCell (by show w.heap.size ≤ w.heap.size + 1; omega) _) (show w.heap.size ≤ w.heap.size + 1 + 1 by omega) _

set_option maxRecDepth 8000 in
set_option maxHeartbeats 4000000 in
theorem step_21_false (t f k : Int) (p st len cap ib off : Nat) (s : St) (d : Da) (w : World) (hd : d.ok) (hp : p < len) (hlen : len ≤ 4096) (hst : st ≤ 4096) (ht : 0 ≤ f ∧ f ≤ 255) (hb : holdsV 21 s.a k = false) (hat : In.at ⟨21, t, f, k⟩ w ib (off + p * 4)) :
    Calls Try.prog 38 #[.slice (some ⟨ib, off, none⟩) len cap, d.val, .agg (rcells p st s false).toArray] w fun e w' => e = .returned (.agg (rcells (p + 1 + f) (st + 1) s false).toArray) ∧ Below w.heap.size w w' := by
  have b8 : bits .and .u16 21 8 = 0 := by kernel_rfl
  have b7 : bits .and .u16 21 7 = 5 := by kernel_rfl
  have HQ : Hid (∀ X : World, Calls Try.prog 51 #[.int .u16 21, .int .u32 s.a, .int .u32 k] X fun e w' => e = .returned (.bool false) ∧ w' = X) := fun X => hb ▸ refHolds_any 21 s.a k X
  have wt : IntKind.i64.wrap f = f := by rw [IntKind.wrap_i64]; omega
  unfold Da.val
  obtain ⟨X, HX, hX⟩ := step_open w d (rcells p st s false).toArray
  obtain ⟨q1, q2, q3, q4⟩ := hat.below hX.bw
  obtain ⟨Y, HY⟩ : ∃ Y, Hid (X.alloc (Obj.cells #[.int .u16 21, .int .u8 t, .int .u8 f, .int .u32 k] 56) = Y) := ⟨_, rfl⟩
  have hP : Park w d X Y ⟨21, t, f, k⟩ p st s := step_park hX HY.out
  have HP : Hid (Park w d X Y ⟨21, t, f, k⟩ p st s) := hP
  obtain ⟨i1, i2, i3, i4⟩ := hP.ci
  have c0 : X.cell? ⟨w.heap.size + 1, 0, none⟩ = some (.int .i64 p) := Blk.cell hX.rb 0
  have e0 : Y.cell? ⟨w.heap.size + 1, 0, none⟩ = some (.int .i64 p) := Blk.cell hP.rb 0
  have e1 : Y.cell? ⟨w.heap.size + 1, 1, none⟩ = some (.int .i64 st) := Blk.cell hP.rb 1
  have e2 : Y.cell? ⟨w.heap.size + 1, 2, none⟩ = some (.int .u32 s.a) := Blk.cell hP.rb 2
  have e3 : Y.cell? ⟨w.heap.size + 1, 3, none⟩ = some (.int .u32 s.x) := Blk.cell hP.rb 3
  have e20 : Y.cell? ⟨w.heap.size + 1, 20, none⟩ = some (.bool false) := Blk.cell hP.rb 20
  have e21 : Y.cell? ⟨w.heap.size + 1, 21, none⟩ = some (.int .u32 s.ans) := Blk.cell hP.rb 21
  have f0 : ∀ i, Y.frozen? ⟨w.heap.size + 1, i, none⟩ = false := fun i => Blk.f hP.rb i
  have n1 : X.heap.size ≠ w.heap.size + 1 := by have := hX.sz; omega
  have n2 : w.heap.size + 1 ≠ X.heap.size := fun h => n1 h.symm
  have hi1 : (p : Int) < (len : Int) := by omega
  clear hb
  clear hat hX hP hd
  generalize hL : (rcells p st s false).toArray = L at HX ⊢
  clear hL
  go_enter Try.func38, Try.ntmps38
  go_wp2_with (first | (refine switch_world HX.out ?_) | (refine switch_world HY.out ?_) | (refine at_op (.load 77 (.tmp 5)) rfl ?_; refine wpList_load_row rfl 77 (.tmp 5) rfl (w.heap.size + 1) rfl 77 (rcells (p + 1 + f) (st + 1) s false).toArray (0, 0) _ (((HP.out.rb.setAt _).setSteps _).setAt _) Try.underlying77 rfl r55 ?_) | (refine at_op (.store 77 (.tmp 6) (.tmp 176)) rfl ?_; refine wpList_store_row rfl 77 (.tmp 6) (.tmp 176) rfl (w.heap.size + 1 + 1) (rcells (p + 1 + f) (st + 1) s false).toArray rfl rfl 77 _ (((HP.out.rz.other _ _ (by show w.heap.size + 1 + 1 ≠ w.heap.size + 1; omega)).other _ _ (by show w.heap.size + 1 + 1 ≠ w.heap.size + 1; omega)).other _ _ (by show w.heap.size + 1 + 1 ≠ w.heap.size + 1; omega)) r55 rfl (rcells_one _ _ _ _) ?_) | (go_at_call 51; refine (HQ.out _).mono ?_; rintro e w2 ⟨rfl, rfl⟩))
  refine bodyPost_ret (v := .agg (rcells (p + 1 + f) (st + 1) s false).toArray) ?_ rfl ⟨rfl, ?_⟩
  · exact results_cell_row Try.results38 _ _ (w.heap.size + 1 + 1) 77 (rcells (p + 1 + f) (st + 1) s false).toArray (0, 0) _ rfl (Blk.row (((HP.out.rz.other _ _ (by show w.heap.size + 1 + 1 ≠ w.heap.size + 1; omega)).other _ _ (by show w.heap.size + 1 + 1 ≠ w.heap.size + 1; omega)).other _ _ (by show w.heap.size + 1 + 1 ≠ w.heap.size + 1; omega)) _) Try.underlying77 rfl r55
  · exact below_setRow (((HP.out.bw.setCell (by show w.heap.size ≤ w.heap.size + 1; omega) _).setCell (by show w.heap.size ≤ w.heap.size + 1; omega) _).setCell (by show w.heap.size ≤ w.heap.size + 1; omega) _) (show w.heap.size ≤ w.heap.size + 1 + 1 by omega) _

set_option maxRecDepth 8000 in
set_option maxHeartbeats 4000000 in
theorem step_29_true (t f k : Int) (p st len cap ib off : Nat) (s : St) (d : Da) (w : World) (hd : d.ok) (hp : p < len) (hlen : len ≤ 4096) (hst : st ≤ 4096) (ht : 0 ≤ t ∧ t ≤ 255) (hb : holdsV 21 s.a s.x = true) (hat : In.at ⟨29, t, f, k⟩ w ib (off + p * 4)) :
    Calls Try.prog 38 #[.slice (some ⟨ib, off, none⟩) len cap, d.val, .agg (rcells p st s false).toArray] w fun e w' => e = .returned (.agg (rcells (p + 1 + t) (st + 1) s false).toArray) ∧ Below w.heap.size w w' := by
  have b8 : bits .and .u16 29 8 = 8 := by kernel_rfl
  have b7 : bits .and .u16 29 7 = 5 := by kernel_rfl
  have HQ : Hid (∀ X : World, Calls Try.prog 51 #[.int .u16 21, .int .u32 s.a, .int .u32 s.x] X fun e w' => e = .returned (.bool true) ∧ w' = X) := fun X => hb ▸ refHolds_any 21 s.a s.x X
  have wt : IntKind.i64.wrap t = t := by rw [IntKind.wrap_i64]; omega
  unfold Da.val
  obtain ⟨X, HX, hX⟩ := step_open w d (rcells p st s false).toArray
  obtain ⟨q1, q2, q3, q4⟩ := hat.below hX.bw
  obtain ⟨Y, HY⟩ : ∃ Y, Hid (X.alloc (Obj.cells #[.int .u16 29, .int .u8 t, .int .u8 f, .int .u32 k] 56) = Y) := ⟨_, rfl⟩
  have hP : Park w d X Y ⟨29, t, f, k⟩ p st s := step_park hX HY.out
  have HP : Hid (Park w d X Y ⟨29, t, f, k⟩ p st s) := hP
  obtain ⟨i1, i2, i3, i4⟩ := hP.ci
  have c0 : X.cell? ⟨w.heap.size + 1, 0, none⟩ = some (.int .i64 p) := Blk.cell hX.rb 0
  have e0 : Y.cell? ⟨w.heap.size + 1, 0, none⟩ = some (.int .i64 p) := Blk.cell hP.rb 0
  have e1 : Y.cell? ⟨w.heap.size + 1, 1, none⟩ = some (.int .i64 st) := Blk.cell hP.rb 1
  have e2 : Y.cell? ⟨w.heap.size + 1, 2, none⟩ = some (.int .u32 s.a) := Blk.cell hP.rb 2
  have e3 : Y.cell? ⟨w.heap.size + 1, 3, none⟩ = some (.int .u32 s.x) := Blk.cell hP.rb 3
  have e20 : Y.cell? ⟨w.heap.size + 1, 20, none⟩ = some (.bool false) := Blk.cell hP.rb 20
  have e21 : Y.cell? ⟨w.heap.size + 1, 21, none⟩ = some (.int .u32 s.ans) := Blk.cell hP.rb 21
  have f0 : ∀ i, Y.frozen? ⟨w.heap.size + 1, i, none⟩ = false := fun i => Blk.f hP.rb i
  have n1 : X.heap.size ≠ w.heap.size + 1 := by have := hX.sz; omega
  have n2 : w.heap.size + 1 ≠ X.heap.size := fun h => n1 h.symm
  have hi1 : (p : Int) < (len : Int) := by omega
  clear hb
  clear hat hX hP hd
  generalize hL : (rcells p st s false).toArray = L at HX ⊢
  clear hL
  go_enter Try.func38, Try.ntmps38
  go_wp2_with (first | (refine switch_world HX.out ?_) | (refine switch_world HY.out ?_) | (refine at_op (.load 77 (.tmp 5)) rfl ?_; refine wpList_load_row rfl 77 (.tmp 5) rfl (w.heap.size + 1) rfl 77 (rcells (p + 1 + t) (st + 1) s false).toArray (0, 0) _ (((HP.out.rb.setAt _).setSteps _).setAt _) Try.underlying77 rfl r55 ?_) | (refine at_op (.store 77 (.tmp 6) (.tmp 176)) rfl ?_; refine wpList_store_row rfl 77 (.tmp 6) (.tmp 176) rfl (w.heap.size + 1 + 1) (rcells (p + 1 + t) (st + 1) s false).toArray rfl rfl 77 _ (((HP.out.rz.other _ _ (by show w.heap.size + 1 + 1 ≠ w.heap.size + 1; omega)).other _ _ (by show w.heap.size + 1 + 1 ≠ w.heap.size + 1; omega)).other _ _ (by show w.heap.size + 1 + 1 ≠ w.heap.size + 1; omega)) r55 rfl (rcells_one _ _ _ _) ?_) | (go_at_call 51; refine (HQ.out _).mono ?_; rintro e w2 ⟨rfl, rfl⟩))
  refine bodyPost_ret (v := .agg (rcells (p + 1 + t) (st + 1) s false).toArray) ?_ rfl ⟨rfl, ?_⟩
  · exact results_cell_row Try.results38 _ _ (w.heap.size + 1 + 1) 77 (rcells (p + 1 + t) (st + 1) s false).toArray (0, 0) _ rfl (Blk.row (((HP.out.rz.other _ _ (by show w.heap.size + 1 + 1 ≠ w.heap.size + 1; omega)).other _ _ (by show w.heap.size + 1 + 1 ≠ w.heap.size + 1; omega)).other _ _ (by show w.heap.size + 1 + 1 ≠ w.heap.size + 1; omega)) _) Try.underlying77 rfl r55
  · exact below_setRow (((HP.out.bw.setCell (by show w.heap.size ≤ w.heap.size + 1; omega) _).setCell (by show w.heap.size ≤ w.heap.size + 1; omega) _).setCell (by show w.heap.size ≤ w.heap.size + 1; omega) _) (show w.heap.size ≤ w.heap.size + 1 + 1 by omega) _

set_option maxRecDepth 8000 in
set_option maxHeartbeats 4000000 in
theorem step_29_false (t f k : Int) (p st len cap ib off : Nat) (s : St) (d : Da) (w : World) (hd : d.ok) (hp : p < len) (hlen : len ≤ 4096) (hst : st ≤ 4096) (ht : 0 ≤ f ∧ f ≤ 255) (hb : holdsV 21 s.a s.x = false) (hat : In.at ⟨29, t, f, k⟩ w ib (off + p * 4)) :
    Calls Try.prog 38 #[.slice (some ⟨ib, off, none⟩) len cap, d.val, .agg (rcells p st s false).toArray] w fun e w' => e = .returned (.agg (rcells (p + 1 + f) (st + 1) s false).toArray) ∧ Below w.heap.size w w' := by
  have b8 : bits .and .u16 29 8 = 8 := by kernel_rfl
  have b7 : bits .and .u16 29 7 = 5 := by kernel_rfl
  have HQ : Hid (∀ X : World, Calls Try.prog 51 #[.int .u16 21, .int .u32 s.a, .int .u32 s.x] X fun e w' => e = .returned (.bool false) ∧ w' = X) := fun X => hb ▸ refHolds_any 21 s.a s.x X
  have wt : IntKind.i64.wrap f = f := by rw [IntKind.wrap_i64]; omega
  unfold Da.val
  obtain ⟨X, HX, hX⟩ := step_open w d (rcells p st s false).toArray
  obtain ⟨q1, q2, q3, q4⟩ := hat.below hX.bw
  obtain ⟨Y, HY⟩ : ∃ Y, Hid (X.alloc (Obj.cells #[.int .u16 29, .int .u8 t, .int .u8 f, .int .u32 k] 56) = Y) := ⟨_, rfl⟩
  have hP : Park w d X Y ⟨29, t, f, k⟩ p st s := step_park hX HY.out
  have HP : Hid (Park w d X Y ⟨29, t, f, k⟩ p st s) := hP
  obtain ⟨i1, i2, i3, i4⟩ := hP.ci
  have c0 : X.cell? ⟨w.heap.size + 1, 0, none⟩ = some (.int .i64 p) := Blk.cell hX.rb 0
  have e0 : Y.cell? ⟨w.heap.size + 1, 0, none⟩ = some (.int .i64 p) := Blk.cell hP.rb 0
  have e1 : Y.cell? ⟨w.heap.size + 1, 1, none⟩ = some (.int .i64 st) := Blk.cell hP.rb 1
  have e2 : Y.cell? ⟨w.heap.size + 1, 2, none⟩ = some (.int .u32 s.a) := Blk.cell hP.rb 2
  have e3 : Y.cell? ⟨w.heap.size + 1, 3, none⟩ = some (.int .u32 s.x) := Blk.cell hP.rb 3
  have e20 : Y.cell? ⟨w.heap.size + 1, 20, none⟩ = some (.bool false) := Blk.cell hP.rb 20
  have e21 : Y.cell? ⟨w.heap.size + 1, 21, none⟩ = some (.int .u32 s.ans) := Blk.cell hP.rb 21
  have f0 : ∀ i, Y.frozen? ⟨w.heap.size + 1, i, none⟩ = false := fun i => Blk.f hP.rb i
  have n1 : X.heap.size ≠ w.heap.size + 1 := by have := hX.sz; omega
  have n2 : w.heap.size + 1 ≠ X.heap.size := fun h => n1 h.symm
  have hi1 : (p : Int) < (len : Int) := by omega
  clear hb
  clear hat hX hP hd
  generalize hL : (rcells p st s false).toArray = L at HX ⊢
  clear hL
  go_enter Try.func38, Try.ntmps38
  go_wp2_with (first | (refine switch_world HX.out ?_) | (refine switch_world HY.out ?_) | (refine at_op (.load 77 (.tmp 5)) rfl ?_; refine wpList_load_row rfl 77 (.tmp 5) rfl (w.heap.size + 1) rfl 77 (rcells (p + 1 + f) (st + 1) s false).toArray (0, 0) _ (((HP.out.rb.setAt _).setSteps _).setAt _) Try.underlying77 rfl r55 ?_) | (refine at_op (.store 77 (.tmp 6) (.tmp 176)) rfl ?_; refine wpList_store_row rfl 77 (.tmp 6) (.tmp 176) rfl (w.heap.size + 1 + 1) (rcells (p + 1 + f) (st + 1) s false).toArray rfl rfl 77 _ (((HP.out.rz.other _ _ (by show w.heap.size + 1 + 1 ≠ w.heap.size + 1; omega)).other _ _ (by show w.heap.size + 1 + 1 ≠ w.heap.size + 1; omega)).other _ _ (by show w.heap.size + 1 + 1 ≠ w.heap.size + 1; omega)) r55 rfl (rcells_one _ _ _ _) ?_) | (go_at_call 51; refine (HQ.out _).mono ?_; rintro e w2 ⟨rfl, rfl⟩))
  refine bodyPost_ret (v := .agg (rcells (p + 1 + f) (st + 1) s false).toArray) ?_ rfl ⟨rfl, ?_⟩
  · exact results_cell_row Try.results38 _ _ (w.heap.size + 1 + 1) 77 (rcells (p + 1 + f) (st + 1) s false).toArray (0, 0) _ rfl (Blk.row (((HP.out.rz.other _ _ (by show w.heap.size + 1 + 1 ≠ w.heap.size + 1; omega)).other _ _ (by show w.heap.size + 1 + 1 ≠ w.heap.size + 1; omega)).other _ _ (by show w.heap.size + 1 + 1 ≠ w.heap.size + 1; omega)) _) Try.underlying77 rfl r55
  · exact below_setRow (((HP.out.bw.setCell (by show w.heap.size ≤ w.heap.size + 1; omega) _).setCell (by show w.heap.size ≤ w.heap.size + 1; omega) _).setCell (by show w.heap.size ≤ w.heap.size + 1; omega) _) (show w.heap.size ≤ w.heap.size + 1 + 1 by omega) _

set_option maxRecDepth 8000 in
set_option maxHeartbeats 4000000 in
theorem step_37_true (t f k : Int) (p st len cap ib off : Nat) (s : St) (d : Da) (w : World) (hd : d.ok) (hp : p < len) (hlen : len ≤ 4096) (hst : st ≤ 4096) (ht : 0 ≤ t ∧ t ≤ 255) (hb : holdsV 37 s.a k = true) (hat : In.at ⟨37, t, f, k⟩ w ib (off + p * 4)) :
    Calls Try.prog 38 #[.slice (some ⟨ib, off, none⟩) len cap, d.val, .agg (rcells p st s false).toArray] w fun e w' => e = .returned (.agg (rcells (p + 1 + t) (st + 1) s false).toArray) ∧ Below w.heap.size w w' := by
  have b8 : bits .and .u16 37 8 = 0 := by kernel_rfl
  have b7 : bits .and .u16 37 7 = 5 := by kernel_rfl
  have HQ : Hid (∀ X : World, Calls Try.prog 51 #[.int .u16 37, .int .u32 s.a, .int .u32 k] X fun e w' => e = .returned (.bool true) ∧ w' = X) := fun X => hb ▸ refHolds_any 37 s.a k X
  have wt : IntKind.i64.wrap t = t := by rw [IntKind.wrap_i64]; omega
  unfold Da.val
  obtain ⟨X, HX, hX⟩ := step_open w d (rcells p st s false).toArray
  obtain ⟨q1, q2, q3, q4⟩ := hat.below hX.bw
  obtain ⟨Y, HY⟩ : ∃ Y, Hid (X.alloc (Obj.cells #[.int .u16 37, .int .u8 t, .int .u8 f, .int .u32 k] 56) = Y) := ⟨_, rfl⟩
  have hP : Park w d X Y ⟨37, t, f, k⟩ p st s := step_park hX HY.out
  have HP : Hid (Park w d X Y ⟨37, t, f, k⟩ p st s) := hP
  obtain ⟨i1, i2, i3, i4⟩ := hP.ci
  have c0 : X.cell? ⟨w.heap.size + 1, 0, none⟩ = some (.int .i64 p) := Blk.cell hX.rb 0
  have e0 : Y.cell? ⟨w.heap.size + 1, 0, none⟩ = some (.int .i64 p) := Blk.cell hP.rb 0
  have e1 : Y.cell? ⟨w.heap.size + 1, 1, none⟩ = some (.int .i64 st) := Blk.cell hP.rb 1
  have e2 : Y.cell? ⟨w.heap.size + 1, 2, none⟩ = some (.int .u32 s.a) := Blk.cell hP.rb 2
  have e3 : Y.cell? ⟨w.heap.size + 1, 3, none⟩ = some (.int .u32 s.x) := Blk.cell hP.rb 3
  have e20 : Y.cell? ⟨w.heap.size + 1, 20, none⟩ = some (.bool false) := Blk.cell hP.rb 20
  have e21 : Y.cell? ⟨w.heap.size + 1, 21, none⟩ = some (.int .u32 s.ans) := Blk.cell hP.rb 21
  have f0 : ∀ i, Y.frozen? ⟨w.heap.size + 1, i, none⟩ = false := fun i => Blk.f hP.rb i
  have n1 : X.heap.size ≠ w.heap.size + 1 := by have := hX.sz; omega
  have n2 : w.heap.size + 1 ≠ X.heap.size := fun h => n1 h.symm
  have hi1 : (p : Int) < (len : Int) := by omega
  clear hb
  clear hat hX hP hd
  generalize hL : (rcells p st s false).toArray = L at HX ⊢
  clear hL
  go_enter Try.func38, Try.ntmps38
  go_wp2_with (first | (refine switch_world HX.out ?_) | (refine switch_world HY.out ?_) | (refine at_op (.load 77 (.tmp 5)) rfl ?_; refine wpList_load_row rfl 77 (.tmp 5) rfl (w.heap.size + 1) rfl 77 (rcells (p + 1 + t) (st + 1) s false).toArray (0, 0) _ (((HP.out.rb.setAt _).setSteps _).setAt _) Try.underlying77 rfl r55 ?_) | (refine at_op (.store 77 (.tmp 6) (.tmp 176)) rfl ?_; refine wpList_store_row rfl 77 (.tmp 6) (.tmp 176) rfl (w.heap.size + 1 + 1) (rcells (p + 1 + t) (st + 1) s false).toArray rfl rfl 77 _ (((HP.out.rz.other _ _ (by show w.heap.size + 1 + 1 ≠ w.heap.size + 1; omega)).other _ _ (by show w.heap.size + 1 + 1 ≠ w.heap.size + 1; omega)).other _ _ (by show w.heap.size + 1 + 1 ≠ w.heap.size + 1; omega)) r55 rfl (rcells_one _ _ _ _) ?_) | (go_at_call 51; refine (HQ.out _).mono ?_; rintro e w2 ⟨rfl, rfl⟩))
  refine bodyPost_ret (v := .agg (rcells (p + 1 + t) (st + 1) s false).toArray) ?_ rfl ⟨rfl, ?_⟩
  · exact results_cell_row Try.results38 _ _ (w.heap.size + 1 + 1) 77 (rcells (p + 1 + t) (st + 1) s false).toArray (0, 0) _ rfl (Blk.row (((HP.out.rz.other _ _ (by show w.heap.size + 1 + 1 ≠ w.heap.size + 1; omega)).other _ _ (by show w.heap.size + 1 + 1 ≠ w.heap.size + 1; omega)).other _ _ (by show w.heap.size + 1 + 1 ≠ w.heap.size + 1; omega)) _) Try.underlying77 rfl r55
  · exact below_setRow (((HP.out.bw.setCell (by show w.heap.size ≤ w.heap.size + 1; omega) _).setCell (by show w.heap.size ≤ w.heap.size + 1; omega) _).setCell (by show w.heap.size ≤ w.heap.size + 1; omega) _) (show w.heap.size ≤ w.heap.size + 1 + 1 by omega) _

set_option maxRecDepth 8000 in
set_option maxHeartbeats 4000000 in
theorem step_37_false (t f k : Int) (p st len cap ib off : Nat) (s : St) (d : Da) (w : World) (hd : d.ok) (hp : p < len) (hlen : len ≤ 4096) (hst : st ≤ 4096) (ht : 0 ≤ f ∧ f ≤ 255) (hb : holdsV 37 s.a k = false) (hat : In.at ⟨37, t, f, k⟩ w ib (off + p * 4)) :
    Calls Try.prog 38 #[.slice (some ⟨ib, off, none⟩) len cap, d.val, .agg (rcells p st s false).toArray] w fun e w' => e = .returned (.agg (rcells (p + 1 + f) (st + 1) s false).toArray) ∧ Below w.heap.size w w' := by
  have b8 : bits .and .u16 37 8 = 0 := by kernel_rfl
  have b7 : bits .and .u16 37 7 = 5 := by kernel_rfl
  have HQ : Hid (∀ X : World, Calls Try.prog 51 #[.int .u16 37, .int .u32 s.a, .int .u32 k] X fun e w' => e = .returned (.bool false) ∧ w' = X) := fun X => hb ▸ refHolds_any 37 s.a k X
  have wt : IntKind.i64.wrap f = f := by rw [IntKind.wrap_i64]; omega
  unfold Da.val
  obtain ⟨X, HX, hX⟩ := step_open w d (rcells p st s false).toArray
  obtain ⟨q1, q2, q3, q4⟩ := hat.below hX.bw
  obtain ⟨Y, HY⟩ : ∃ Y, Hid (X.alloc (Obj.cells #[.int .u16 37, .int .u8 t, .int .u8 f, .int .u32 k] 56) = Y) := ⟨_, rfl⟩
  have hP : Park w d X Y ⟨37, t, f, k⟩ p st s := step_park hX HY.out
  have HP : Hid (Park w d X Y ⟨37, t, f, k⟩ p st s) := hP
  obtain ⟨i1, i2, i3, i4⟩ := hP.ci
  have c0 : X.cell? ⟨w.heap.size + 1, 0, none⟩ = some (.int .i64 p) := Blk.cell hX.rb 0
  have e0 : Y.cell? ⟨w.heap.size + 1, 0, none⟩ = some (.int .i64 p) := Blk.cell hP.rb 0
  have e1 : Y.cell? ⟨w.heap.size + 1, 1, none⟩ = some (.int .i64 st) := Blk.cell hP.rb 1
  have e2 : Y.cell? ⟨w.heap.size + 1, 2, none⟩ = some (.int .u32 s.a) := Blk.cell hP.rb 2
  have e3 : Y.cell? ⟨w.heap.size + 1, 3, none⟩ = some (.int .u32 s.x) := Blk.cell hP.rb 3
  have e20 : Y.cell? ⟨w.heap.size + 1, 20, none⟩ = some (.bool false) := Blk.cell hP.rb 20
  have e21 : Y.cell? ⟨w.heap.size + 1, 21, none⟩ = some (.int .u32 s.ans) := Blk.cell hP.rb 21
  have f0 : ∀ i, Y.frozen? ⟨w.heap.size + 1, i, none⟩ = false := fun i => Blk.f hP.rb i
  have n1 : X.heap.size ≠ w.heap.size + 1 := by have := hX.sz; omega
  have n2 : w.heap.size + 1 ≠ X.heap.size := fun h => n1 h.symm
  have hi1 : (p : Int) < (len : Int) := by omega
  clear hb
  clear hat hX hP hd
  generalize hL : (rcells p st s false).toArray = L at HX ⊢
  clear hL
  go_enter Try.func38, Try.ntmps38
  go_wp2_with (first | (refine switch_world HX.out ?_) | (refine switch_world HY.out ?_) | (refine at_op (.load 77 (.tmp 5)) rfl ?_; refine wpList_load_row rfl 77 (.tmp 5) rfl (w.heap.size + 1) rfl 77 (rcells (p + 1 + f) (st + 1) s false).toArray (0, 0) _ (((HP.out.rb.setAt _).setSteps _).setAt _) Try.underlying77 rfl r55 ?_) | (refine at_op (.store 77 (.tmp 6) (.tmp 176)) rfl ?_; refine wpList_store_row rfl 77 (.tmp 6) (.tmp 176) rfl (w.heap.size + 1 + 1) (rcells (p + 1 + f) (st + 1) s false).toArray rfl rfl 77 _ (((HP.out.rz.other _ _ (by show w.heap.size + 1 + 1 ≠ w.heap.size + 1; omega)).other _ _ (by show w.heap.size + 1 + 1 ≠ w.heap.size + 1; omega)).other _ _ (by show w.heap.size + 1 + 1 ≠ w.heap.size + 1; omega)) r55 rfl (rcells_one _ _ _ _) ?_) | (go_at_call 51; refine (HQ.out _).mono ?_; rintro e w2 ⟨rfl, rfl⟩))
  refine bodyPost_ret (v := .agg (rcells (p + 1 + f) (st + 1) s false).toArray) ?_ rfl ⟨rfl, ?_⟩
  · exact results_cell_row Try.results38 _ _ (w.heap.size + 1 + 1) 77 (rcells (p + 1 + f) (st + 1) s false).toArray (0, 0) _ rfl (Blk.row (((HP.out.rz.other _ _ (by show w.heap.size + 1 + 1 ≠ w.heap.size + 1; omega)).other _ _ (by show w.heap.size + 1 + 1 ≠ w.heap.size + 1; omega)).other _ _ (by show w.heap.size + 1 + 1 ≠ w.heap.size + 1; omega)) _) Try.underlying77 rfl r55
  · exact below_setRow (((HP.out.bw.setCell (by show w.heap.size ≤ w.heap.size + 1; omega) _).setCell (by show w.heap.size ≤ w.heap.size + 1; omega) _).setCell (by show w.heap.size ≤ w.heap.size + 1; omega) _) (show w.heap.size ≤ w.heap.size + 1 + 1 by omega) _

set_option maxRecDepth 8000 in
set_option maxHeartbeats 4000000 in
theorem step_45_true (t f k : Int) (p st len cap ib off : Nat) (s : St) (d : Da) (w : World) (hd : d.ok) (hp : p < len) (hlen : len ≤ 4096) (hst : st ≤ 4096) (ht : 0 ≤ t ∧ t ≤ 255) (hb : holdsV 37 s.a s.x = true) (hat : In.at ⟨45, t, f, k⟩ w ib (off + p * 4)) :
    Calls Try.prog 38 #[.slice (some ⟨ib, off, none⟩) len cap, d.val, .agg (rcells p st s false).toArray] w fun e w' => e = .returned (.agg (rcells (p + 1 + t) (st + 1) s false).toArray) ∧ Below w.heap.size w w' := by
  have b8 : bits .and .u16 45 8 = 8 := by kernel_rfl
  have b7 : bits .and .u16 45 7 = 5 := by kernel_rfl
  have HQ : Hid (∀ X : World, Calls Try.prog 51 #[.int .u16 37, .int .u32 s.a, .int .u32 s.x] X fun e w' => e = .returned (.bool true) ∧ w' = X) := fun X => hb ▸ refHolds_any 37 s.a s.x X
  have wt : IntKind.i64.wrap t = t := by rw [IntKind.wrap_i64]; omega
  unfold Da.val
  obtain ⟨X, HX, hX⟩ := step_open w d (rcells p st s false).toArray
  obtain ⟨q1, q2, q3, q4⟩ := hat.below hX.bw
  obtain ⟨Y, HY⟩ : ∃ Y, Hid (X.alloc (Obj.cells #[.int .u16 45, .int .u8 t, .int .u8 f, .int .u32 k] 56) = Y) := ⟨_, rfl⟩
  have hP : Park w d X Y ⟨45, t, f, k⟩ p st s := step_park hX HY.out
  have HP : Hid (Park w d X Y ⟨45, t, f, k⟩ p st s) := hP
  obtain ⟨i1, i2, i3, i4⟩ := hP.ci
  have c0 : X.cell? ⟨w.heap.size + 1, 0, none⟩ = some (.int .i64 p) := Blk.cell hX.rb 0
  have e0 : Y.cell? ⟨w.heap.size + 1, 0, none⟩ = some (.int .i64 p) := Blk.cell hP.rb 0
  have e1 : Y.cell? ⟨w.heap.size + 1, 1, none⟩ = some (.int .i64 st) := Blk.cell hP.rb 1
  have e2 : Y.cell? ⟨w.heap.size + 1, 2, none⟩ = some (.int .u32 s.a) := Blk.cell hP.rb 2
  have e3 : Y.cell? ⟨w.heap.size + 1, 3, none⟩ = some (.int .u32 s.x) := Blk.cell hP.rb 3
  have e20 : Y.cell? ⟨w.heap.size + 1, 20, none⟩ = some (.bool false) := Blk.cell hP.rb 20
  have e21 : Y.cell? ⟨w.heap.size + 1, 21, none⟩ = some (.int .u32 s.ans) := Blk.cell hP.rb 21
  have f0 : ∀ i, Y.frozen? ⟨w.heap.size + 1, i, none⟩ = false := fun i => Blk.f hP.rb i
  have n1 : X.heap.size ≠ w.heap.size + 1 := by have := hX.sz; omega
  have n2 : w.heap.size + 1 ≠ X.heap.size := fun h => n1 h.symm
  have hi1 : (p : Int) < (len : Int) := by omega
  clear hb
  clear hat hX hP hd
  generalize hL : (rcells p st s false).toArray = L at HX ⊢
  clear hL
  go_enter Try.func38, Try.ntmps38
  go_wp2_with (first | (refine switch_world HX.out ?_) | (refine switch_world HY.out ?_) | (refine at_op (.load 77 (.tmp 5)) rfl ?_; refine wpList_load_row rfl 77 (.tmp 5) rfl (w.heap.size + 1) rfl 77 (rcells (p + 1 + t) (st + 1) s false).toArray (0, 0) _ (((HP.out.rb.setAt _).setSteps _).setAt _) Try.underlying77 rfl r55 ?_) | (refine at_op (.store 77 (.tmp 6) (.tmp 176)) rfl ?_; refine wpList_store_row rfl 77 (.tmp 6) (.tmp 176) rfl (w.heap.size + 1 + 1) (rcells (p + 1 + t) (st + 1) s false).toArray rfl rfl 77 _ (((HP.out.rz.other _ _ (by show w.heap.size + 1 + 1 ≠ w.heap.size + 1; omega)).other _ _ (by show w.heap.size + 1 + 1 ≠ w.heap.size + 1; omega)).other _ _ (by show w.heap.size + 1 + 1 ≠ w.heap.size + 1; omega)) r55 rfl (rcells_one _ _ _ _) ?_) | (go_at_call 51; refine (HQ.out _).mono ?_; rintro e w2 ⟨rfl, rfl⟩))
  refine bodyPost_ret (v := .agg (rcells (p + 1 + t) (st + 1) s false).toArray) ?_ rfl ⟨rfl, ?_⟩
  · exact results_cell_row Try.results38 _ _ (w.heap.size + 1 + 1) 77 (rcells (p + 1 + t) (st + 1) s false).toArray (0, 0) _ rfl (Blk.row (((HP.out.rz.other _ _ (by show w.heap.size + 1 + 1 ≠ w.heap.size + 1; omega)).other _ _ (by show w.heap.size + 1 + 1 ≠ w.heap.size + 1; omega)).other _ _ (by show w.heap.size + 1 + 1 ≠ w.heap.size + 1; omega)) _) Try.underlying77 rfl r55
  · exact below_setRow (((HP.out.bw.setCell (by show w.heap.size ≤ w.heap.size + 1; omega) _).setCell (by show w.heap.size ≤ w.heap.size + 1; omega) _).setCell (by show w.heap.size ≤ w.heap.size + 1; omega) _) (show w.heap.size ≤ w.heap.size + 1 + 1 by omega) _

set_option maxRecDepth 8000 in
set_option maxHeartbeats 4000000 in
theorem step_45_false (t f k : Int) (p st len cap ib off : Nat) (s : St) (d : Da) (w : World) (hd : d.ok) (hp : p < len) (hlen : len ≤ 4096) (hst : st ≤ 4096) (ht : 0 ≤ f ∧ f ≤ 255) (hb : holdsV 37 s.a s.x = false) (hat : In.at ⟨45, t, f, k⟩ w ib (off + p * 4)) :
    Calls Try.prog 38 #[.slice (some ⟨ib, off, none⟩) len cap, d.val, .agg (rcells p st s false).toArray] w fun e w' => e = .returned (.agg (rcells (p + 1 + f) (st + 1) s false).toArray) ∧ Below w.heap.size w w' := by
  have b8 : bits .and .u16 45 8 = 8 := by kernel_rfl
  have b7 : bits .and .u16 45 7 = 5 := by kernel_rfl
  have HQ : Hid (∀ X : World, Calls Try.prog 51 #[.int .u16 37, .int .u32 s.a, .int .u32 s.x] X fun e w' => e = .returned (.bool false) ∧ w' = X) := fun X => hb ▸ refHolds_any 37 s.a s.x X
  have wt : IntKind.i64.wrap f = f := by rw [IntKind.wrap_i64]; omega
  unfold Da.val
  obtain ⟨X, HX, hX⟩ := step_open w d (rcells p st s false).toArray
  obtain ⟨q1, q2, q3, q4⟩ := hat.below hX.bw
  obtain ⟨Y, HY⟩ : ∃ Y, Hid (X.alloc (Obj.cells #[.int .u16 45, .int .u8 t, .int .u8 f, .int .u32 k] 56) = Y) := ⟨_, rfl⟩
  have hP : Park w d X Y ⟨45, t, f, k⟩ p st s := step_park hX HY.out
  have HP : Hid (Park w d X Y ⟨45, t, f, k⟩ p st s) := hP
  obtain ⟨i1, i2, i3, i4⟩ := hP.ci
  have c0 : X.cell? ⟨w.heap.size + 1, 0, none⟩ = some (.int .i64 p) := Blk.cell hX.rb 0
  have e0 : Y.cell? ⟨w.heap.size + 1, 0, none⟩ = some (.int .i64 p) := Blk.cell hP.rb 0
  have e1 : Y.cell? ⟨w.heap.size + 1, 1, none⟩ = some (.int .i64 st) := Blk.cell hP.rb 1
  have e2 : Y.cell? ⟨w.heap.size + 1, 2, none⟩ = some (.int .u32 s.a) := Blk.cell hP.rb 2
  have e3 : Y.cell? ⟨w.heap.size + 1, 3, none⟩ = some (.int .u32 s.x) := Blk.cell hP.rb 3
  have e20 : Y.cell? ⟨w.heap.size + 1, 20, none⟩ = some (.bool false) := Blk.cell hP.rb 20
  have e21 : Y.cell? ⟨w.heap.size + 1, 21, none⟩ = some (.int .u32 s.ans) := Blk.cell hP.rb 21
  have f0 : ∀ i, Y.frozen? ⟨w.heap.size + 1, i, none⟩ = false := fun i => Blk.f hP.rb i
  have n1 : X.heap.size ≠ w.heap.size + 1 := by have := hX.sz; omega
  have n2 : w.heap.size + 1 ≠ X.heap.size := fun h => n1 h.symm
  have hi1 : (p : Int) < (len : Int) := by omega
  clear hb
  clear hat hX hP hd
  generalize hL : (rcells p st s false).toArray = L at HX ⊢
  clear hL
  go_enter Try.func38, Try.ntmps38
  go_wp2_with (first | (refine switch_world HX.out ?_) | (refine switch_world HY.out ?_) | (refine at_op (.load 77 (.tmp 5)) rfl ?_; refine wpList_load_row rfl 77 (.tmp 5) rfl (w.heap.size + 1) rfl 77 (rcells (p + 1 + f) (st + 1) s false).toArray (0, 0) _ (((HP.out.rb.setAt _).setSteps _).setAt _) Try.underlying77 rfl r55 ?_) | (refine at_op (.store 77 (.tmp 6) (.tmp 176)) rfl ?_; refine wpList_store_row rfl 77 (.tmp 6) (.tmp 176) rfl (w.heap.size + 1 + 1) (rcells (p + 1 + f) (st + 1) s false).toArray rfl rfl 77 _ (((HP.out.rz.other _ _ (by show w.heap.size + 1 + 1 ≠ w.heap.size + 1; omega)).other _ _ (by show w.heap.size + 1 + 1 ≠ w.heap.size + 1; omega)).other _ _ (by show w.heap.size + 1 + 1 ≠ w.heap.size + 1; omega)) r55 rfl (rcells_one _ _ _ _) ?_) | (go_at_call 51; refine (HQ.out _).mono ?_; rintro e w2 ⟨rfl, rfl⟩))
  refine bodyPost_ret (v := .agg (rcells (p + 1 + f) (st + 1) s false).toArray) ?_ rfl ⟨rfl, ?_⟩
  · exact results_cell_row Try.results38 _ _ (w.heap.size + 1 + 1) 77 (rcells (p + 1 + f) (st + 1) s false).toArray (0, 0) _ rfl (Blk.row (((HP.out.rz.other _ _ (by show w.heap.size + 1 + 1 ≠ w.heap.size + 1; omega)).other _ _ (by show w.heap.size + 1 + 1 ≠ w.heap.size + 1; omega)).other _ _ (by show w.heap.size + 1 + 1 ≠ w.heap.size + 1; omega)) _) Try.underlying77 rfl r55
  · exact below_setRow (((HP.out.bw.setCell (by show w.heap.size ≤ w.heap.size + 1; omega) _).setCell (by show w.heap.size ≤ w.heap.size + 1; omega) _).setCell (by show w.heap.size ≤ w.heap.size + 1; omega) _) (show w.heap.size ≤ w.heap.size + 1 + 1 by omega) _

end Go.Proofs.Ytamioifoemklfaa.V
