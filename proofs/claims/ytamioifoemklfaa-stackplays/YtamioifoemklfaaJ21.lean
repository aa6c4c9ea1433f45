/-
  Texts of this seat, joined: VSByK2.
-/
import Derived.Test.YtamioifoemklfaaJ17

namespace Go.Proofs.Ytamioifoemklfaa.V
open Go.RowKit
set_option linter.unusedVariables false

set_option maxRecDepth 8000 in
set_option maxHeartbeats 4000000 in
theorem step_68 (t f k : Int) (p st len cap ib off : Nat) (s : St) (d : Da) (w : World) (hd : d.ok) (hp : p < len) (hlen : len ≤ 4096) (hst : st ≤ 4096) (hs : s.ok) (hk : U32 k) (hat : In.at ⟨68, t, f, k⟩ w ib (off + p * 4)) :
    Calls Try.prog 38 #[.slice (some ⟨ib, off, none⟩) len cap, d.val, .agg (rcells p st s false).toArray] w fun e w' => e = .returned (.agg (rcells (p + 1) (st + 1) { s with a := reckV 68 s.a k } false).toArray) ∧ Below w.heap.size w w' := by
  have b8 : bits .and .u16 68 8 = 0 := by kernel_rfl
  have b7 : bits .and .u16 68 7 = 4 := by kernel_rfl
  have HQ : Hid (∀ X : World, Calls Try.prog 52 #[.int .u16 68, .int .u32 s.a, .int .u32 k] X fun e w' => e = .returned (.int .u32 (reckV 68 s.a k)) ∧ w' = X) := fun X => refReckon_any 68 s.a k X hs.1 hk (fun h => absurd h (by decide)) rfl
  unfold Da.val
  obtain ⟨X, HX, hX⟩ := step_open w d (rcells p st s false).toArray
  obtain ⟨q1, q2, q3, q4⟩ := hat.below hX.bw
  obtain ⟨Y, HY⟩ : ∃ Y, Hid (X.alloc (Obj.cells #[.int .u16 68, .int .u8 t, .int .u8 f, .int .u32 k] 56) = Y) := ⟨_, rfl⟩
  have hP : Park w d X Y ⟨68, t, f, k⟩ p st s := step_park hX HY.out
  have HP : Hid (Park w d X Y ⟨68, t, f, k⟩ p st s) := hP
  obtain ⟨i1, i2, i3, i4⟩ := hP.ci
  have c0 : X.cell? ⟨w.heap.size + 1, 0, none⟩ = some (.int .i64 p) := Blk.cell hX.rb 0
  have e0 : Y.cell? ⟨w.heap.size + 1, 0, none⟩ = some (.int .i64 p) := Blk.cell hP.rb 0
  have e1 : Y.cell? ⟨w.heap.size + 1, 1, none⟩ = some (.int .i64 st) := Blk.cell hP.rb 1
  have e2 : Y.cell? ⟨w.heap.size + 1, 2, none⟩ = some (.int .u32 s.a) := Blk.cell hP.rb 2
  have e3 : Y.cell? ⟨w.heap.size + 1, 3, none⟩ = some (.int .u32 s.x) := Blk.cell hP.rb 3
  have e20 : Y.cell? ⟨w.heap.size + 1, 20, none⟩ = some (.bool false) := Blk.cell hP.rb 20
  have e21 : Y.cell? ⟨w.heap.size + 1, 21, none⟩ = some (.int .u32 s.ans) := Blk.cell hP.rb 21
  have f0 : ∀ i, Y.frozen? ⟨w.heap.size + 1, i, none⟩ = false := fun i => Blk.f hP.rb i
  have n1 : X.heap.size ≠ w.heap.size + 1 := by have := hX.sz; omega
  have n2 : w.heap.size + 1 ≠ X.heap.size := fun h => n1 h.symm
  have hi1 : (p : Int) < (len : Int) := by omega
  clear hs hk
  clear hat hX hP hd
  generalize hL : (rcells p st s false).toArray = L at HX ⊢
  clear hL
  go_enter Try.func38, Try.ntmps38
  go_wp2_with (first | (refine switch_world HX.out ?_) | (refine switch_world HY.out ?_) | (refine at_op (.load 77 (.tmp 5)) rfl ?_; refine wpList_load_row rfl 77 (.tmp 5) rfl (w.heap.size + 1) rfl 77 (rcells (p + 1) (st + 1) { s with a := reckV 68 s.a k } false).toArray (0, 0) _ (((HP.out.rb.setAt _).setSteps _).setA _) Try.underlying77 rfl r55 ?_) | (refine at_op (.store 77 (.tmp 6) (.tmp 176)) rfl ?_; refine wpList_store_row rfl 77 (.tmp 6) (.tmp 176) rfl (w.heap.size + 1 + 1) (rcells (p + 1) (st + 1) { s with a := reckV 68 s.a k } false).toArray rfl rfl 77 _ (((HP.out.rz.other _ _ (by show w.heap.size + 1 + 1 ≠ w.heap.size + 1; omega)).other _ _ (by show w.heap.size + 1 + 1 ≠ w.heap.size + 1; omega)).other _ _ (by show w.heap.size + 1 + 1 ≠ w.heap.size + 1; omega)) r55 rfl (rcells_one _ _ _ _) ?_) | (go_at_call 52; refine (HQ.out _).mono ?_; rintro e w2 ⟨rfl, rfl⟩))
  refine bodyPost_ret (v := .agg (rcells (p + 1) (st + 1) { s with a := reckV 68 s.a k } false).toArray) ?_ rfl ⟨rfl, ?_⟩
  · exact results_cell_row Try.results38 _ _ (w.heap.size + 1 + 1) 77 (rcells (p + 1) (st + 1) { s with a := reckV 68 s.a k } false).toArray (0, 0) _ rfl (Blk.row (((HP.out.rz.other _ _ (by show w.heap.size + 1 + 1 ≠ w.heap.size + 1; omega)).other _ _ (by show w.heap.size + 1 + 1 ≠ w.heap.size + 1; omega)).other _ _ (by show w.heap.size + 1 + 1 ≠ w.heap.size + 1; omega)) _) Try.underlying77 rfl r55
  · exact below_setRow (((HP.out.bw.setCell (by show w.heap.size ≤ w.heap.size + 1; omega) _).setCell (by show w.heap.size ≤ w.heap.size + 1; omega) _).setCell (by show w.heap.size ≤ w.heap.size + 1; omega) _) (show w.heap.size ≤ w.heap.size + 1 + 1 by omega) _

set_option maxRecDepth 8000 in
set_option maxHeartbeats 4000000 in
theorem step_84 (t f k : Int) (p st len cap ib off : Nat) (s : St) (d : Da) (w : World) (hd : d.ok) (hp : p < len) (hlen : len ≤ 4096) (hst : st ≤ 4096) (hs : s.ok) (hk : U32 k) (hat : In.at ⟨84, t, f, k⟩ w ib (off + p * 4)) :
    Calls Try.prog 38 #[.slice (some ⟨ib, off, none⟩) len cap, d.val, .agg (rcells p st s false).toArray] w fun e w' => e = .returned (.agg (rcells (p + 1) (st + 1) { s with a := reckV 84 s.a k } false).toArray) ∧ Below w.heap.size w w' := by
  have b8 : bits .and .u16 84 8 = 0 := by kernel_rfl
  have b7 : bits .and .u16 84 7 = 4 := by kernel_rfl
  have HQ : Hid (∀ X : World, Calls Try.prog 52 #[.int .u16 84, .int .u32 s.a, .int .u32 k] X fun e w' => e = .returned (.int .u32 (reckV 84 s.a k)) ∧ w' = X) := fun X => refReckon_any 84 s.a k X hs.1 hk (fun h => absurd h (by decide)) rfl
  unfold Da.val
  obtain ⟨X, HX, hX⟩ := step_open w d (rcells p st s false).toArray
  obtain ⟨q1, q2, q3, q4⟩ := hat.below hX.bw
  obtain ⟨Y, HY⟩ : ∃ Y, Hid (X.alloc (Obj.cells #[.int .u16 84, .int .u8 t, .int .u8 f, .int .u32 k] 56) = Y) := ⟨_, rfl⟩
  have hP : Park w d X Y ⟨84, t, f, k⟩ p st s := step_park hX HY.out
  have HP : Hid (Park w d X Y ⟨84, t, f, k⟩ p st s) := hP
  obtain ⟨i1, i2, i3, i4⟩ := hP.ci
  have c0 : X.cell? ⟨w.heap.size + 1, 0, none⟩ = some (.int .i64 p) := Blk.cell hX.rb 0
  have e0 : Y.cell? ⟨w.heap.size + 1, 0, none⟩ = some (.int .i64 p) := Blk.cell hP.rb 0
  have e1 : Y.cell? ⟨w.heap.size + 1, 1, none⟩ = some (.int .i64 st) := Blk.cell hP.rb 1
  have e2 : Y.cell? ⟨w.heap.size + 1, 2, none⟩ = some (.int .u32 s.a) := Blk.cell hP.rb 2
  have e3 : Y.cell? ⟨w.heap.size + 1, 3, none⟩ = some (.int .u32 s.x) := Blk.cell hP.rb 3
  have e20 : Y.cell? ⟨w.heap.size + 1, 20, none⟩ = some (.bool false) := Blk.cell hP.rb 20
  have e21 : Y.cell? ⟨w.heap.size + 1, 21, none⟩ = some (.int .u32 s.ans) := Blk.cell hP.rb 21
  have f0 : ∀ i, Y.frozen? ⟨w.heap.size + 1, i, none⟩ = false := fun i => Blk.f hP.rb i
  have n1 : X.heap.size ≠ w.heap.size + 1 := by have := hX.sz; omega
  have n2 : w.heap.size + 1 ≠ X.heap.size := fun h => n1 h.symm
  have hi1 : (p : Int) < (len : Int) := by omega
  clear hs hk
  clear hat hX hP hd
  generalize hL : (rcells p st s false).toArray = L at HX ⊢
  clear hL
  go_enter Try.func38, Try.ntmps38
  go_wp2_with (first | (refine switch_world HX.out ?_) | (refine switch_world HY.out ?_) | (refine at_op (.load 77 (.tmp 5)) rfl ?_; refine wpList_load_row rfl 77 (.tmp 5) rfl (w.heap.size + 1) rfl 77 (rcells (p + 1) (st + 1) { s with a := reckV 84 s.a k } false).toArray (0, 0) _ (((HP.out.rb.setAt _).setSteps _).setA _) Try.underlying77 rfl r55 ?_) | (refine at_op (.store 77 (.tmp 6) (.tmp 176)) rfl ?_; refine wpList_store_row rfl 77 (.tmp 6) (.tmp 176) rfl (w.heap.size + 1 + 1) (rcells (p + 1) (st + 1) { s with a := reckV 84 s.a k } false).toArray rfl rfl 77 _ (((HP.out.rz.other _ _ (by show w.heap.size + 1 + 1 ≠ w.heap.size + 1; omega)).other _ _ (by show w.heap.size + 1 + 1 ≠ w.heap.size + 1; omega)).other _ _ (by show w.heap.size + 1 + 1 ≠ w.heap.size + 1; omega)) r55 rfl (rcells_one _ _ _ _) ?_) | (go_at_call 52; refine (HQ.out _).mono ?_; rintro e w2 ⟨rfl, rfl⟩))
  refine bodyPost_ret (v := .agg (rcells (p + 1) (st + 1) { s with a := reckV 84 s.a k } false).toArray) ?_ rfl ⟨rfl, ?_⟩
  · exact results_cell_row Try.results38 _ _ (w.heap.size + 1 + 1) 77 (rcells (p + 1) (st + 1) { s with a := reckV 84 s.a k } false).toArray (0, 0) _ rfl (Blk.row (((HP.out.rz.other _ _ (by show w.heap.size + 1 + 1 ≠ w.heap.size + 1; omega)).other _ _ (by show w.heap.size + 1 + 1 ≠ w.heap.size + 1; omega)).other _ _ (by show w.heap.size + 1 + 1 ≠ w.heap.size + 1; omega)) _) Try.underlying77 rfl r55
  · exact below_setRow (((HP.out.bw.setCell (by show w.heap.size ≤ w.heap.size + 1; omega) _).setCell (by show w.heap.size ≤ w.heap.size + 1; omega) _).setCell (by show w.heap.size ≤ w.heap.size + 1; omega) _) (show w.heap.size ≤ w.heap.size + 1 + 1 by omega) _

set_option maxRecDepth 8000 in
set_option maxHeartbeats 4000000 in
theorem step_100 (t f k : Int) (p st len cap ib off : Nat) (s : St) (d : Da) (w : World) (hd : d.ok) (hp : p < len) (hlen : len ≤ 4096) (hst : st ≤ 4096) (hs : s.ok) (hk : U32 k) (hat : In.at ⟨100, t, f, k⟩ w ib (off + p * 4)) :
    Calls Try.prog 38 #[.slice (some ⟨ib, off, none⟩) len cap, d.val, .agg (rcells p st s false).toArray] w fun e w' => e = .returned (.agg (rcells (p + 1) (st + 1) { s with a := reckV 100 s.a k } false).toArray) ∧ Below w.heap.size w w' := by
  have b8 : bits .and .u16 100 8 = 0 := by kernel_rfl
  have b7 : bits .and .u16 100 7 = 4 := by kernel_rfl
  have HQ : Hid (∀ X : World, Calls Try.prog 52 #[.int .u16 100, .int .u32 s.a, .int .u32 k] X fun e w' => e = .returned (.int .u32 (reckV 100 s.a k)) ∧ w' = X) := fun X => refReckon_any 100 s.a k X hs.1 hk (fun h => absurd h (by decide)) rfl
  unfold Da.val
  obtain ⟨X, HX, hX⟩ := step_open w d (rcells p st s false).toArray
  obtain ⟨q1, q2, q3, q4⟩ := hat.below hX.bw
  obtain ⟨Y, HY⟩ : ∃ Y, Hid (X.alloc (Obj.cells #[.int .u16 100, .int .u8 t, .int .u8 f, .int .u32 k] 56) = Y) := ⟨_, rfl⟩
  have hP : Park w d X Y ⟨100, t, f, k⟩ p st s := step_park hX HY.out
  have HP : Hid (Park w d X Y ⟨100, t, f, k⟩ p st s) := hP
  obtain ⟨i1, i2, i3, i4⟩ := hP.ci
  have c0 : X.cell? ⟨w.heap.size + 1, 0, none⟩ = some (.int .i64 p) := Blk.cell hX.rb 0
  have e0 : Y.cell? ⟨w.heap.size + 1, 0, none⟩ = some (.int .i64 p) := Blk.cell hP.rb 0
  have e1 : Y.cell? ⟨w.heap.size + 1, 1, none⟩ = some (.int .i64 st) := Blk.cell hP.rb 1
  have e2 : Y.cell? ⟨w.heap.size + 1, 2, none⟩ = some (.int .u32 s.a) := Blk.cell hP.rb 2
  have e3 : Y.cell? ⟨w.heap.size + 1, 3, none⟩ = some (.int .u32 s.x) := Blk.cell hP.rb 3
  have e20 : Y.cell? ⟨w.heap.size + 1, 20, none⟩ = some (.bool false) := Blk.cell hP.rb 20
  have e21 : Y.cell? ⟨w.heap.size + 1, 21, none⟩ = some (.int .u32 s.ans) := Blk.cell hP.rb 21
  have f0 : ∀ i, Y.frozen? ⟨w.heap.size + 1, i, none⟩ = false := fun i => Blk.f hP.rb i
  have n1 : X.heap.size ≠ w.heap.size + 1 := by have := hX.sz; omega
  have n2 : w.heap.size + 1 ≠ X.heap.size := fun h => n1 h.symm
  have hi1 : (p : Int) < (len : Int) := by omega
  clear hs hk
  clear hat hX hP hd
  generalize hL : (rcells p st s false).toArray = L at HX ⊢
  clear hL
  go_enter Try.func38, Try.ntmps38
  go_wp2_with (first | (refine switch_world HX.out ?_) | (refine switch_world HY.out ?_) | (refine at_op (.load 77 (.tmp 5)) rfl ?_; refine wpList_load_row rfl 77 (.tmp 5) rfl (w.heap.size + 1) rfl 77 (rcells (p + 1) (st + 1) { s with a := reckV 100 s.a k } false).toArray (0, 0) _ (((HP.out.rb.setAt _).setSteps _).setA _) Try.underlying77 rfl r55 ?_) | (refine at_op (.store 77 (.tmp 6) (.tmp 176)) rfl ?_; refine wpList_store_row rfl 77 (.tmp 6) (.tmp 176) rfl (w.heap.size + 1 + 1) (rcells (p + 1) (st + 1) { s with a := reckV 100 s.a k } false).toArray rfl rfl 77 _ (((HP.out.rz.other _ _ (by show w.heap.size + 1 + 1 ≠ w.heap.size + 1; omega)).other _ _ (by show w.heap.size + 1 + 1 ≠ w.heap.size + 1; omega)).other _ _ (by show w.heap.size + 1 + 1 ≠ w.heap.size + 1; omega)) r55 rfl (rcells_one _ _ _ _) ?_) | (go_at_call 52; refine (HQ.out _).mono ?_; rintro e w2 ⟨rfl, rfl⟩))
  refine bodyPost_ret (v := .agg (rcells (p + 1) (st + 1) { s with a := reckV 100 s.a k } false).toArray) ?_ rfl ⟨rfl, ?_⟩
  · exact results_cell_row Try.results38 _ _ (w.heap.size + 1 + 1) 77 (rcells (p + 1) (st + 1) { s with a := reckV 100 s.a k } false).toArray (0, 0) _ rfl (Blk.row (((HP.out.rz.other _ _ (by show w.heap.size + 1 + 1 ≠ w.heap.size + 1; omega)).other _ _ (by show w.heap.size + 1 + 1 ≠ w.heap.size + 1; omega)).other _ _ (by show w.heap.size + 1 + 1 ≠ w.heap.size + 1; omega)) _) Try.underlying77 rfl r55
  · exact below_setRow (((HP.out.bw.setCell (by show w.heap.size ≤ w.heap.size + 1; omega) _).setCell (by show w.heap.size ≤ w.heap.size + 1; omega) _).setCell (by show w.heap.size ≤ w.heap.size + 1; omega) _) (show w.heap.size ≤ w.heap.size + 1 + 1 by omega) _

set_option maxRecDepth 8000 in
set_option maxHeartbeats 4000000 in
theorem step_116 (t f k : Int) (p st len cap ib off : Nat) (s : St) (d : Da) (w : World) (hd : d.ok) (hp : p < len) (hlen : len ≤ 4096) (hst : st ≤ 4096) (hs : s.ok) (hk : U32 k) (hat : In.at ⟨116, t, f, k⟩ w ib (off + p * 4)) :
    Calls Try.prog 38 #[.slice (some ⟨ib, off, none⟩) len cap, d.val, .agg (rcells p st s false).toArray] w fun e w' => e = .returned (.agg (rcells (p + 1) (st + 1) { s with a := reckV 116 s.a k } false).toArray) ∧ Below w.heap.size w w' := by
  have b8 : bits .and .u16 116 8 = 0 := by kernel_rfl
  have b7 : bits .and .u16 116 7 = 4 := by kernel_rfl
  have HQ : Hid (∀ X : World, Calls Try.prog 52 #[.int .u16 116, .int .u32 s.a, .int .u32 k] X fun e w' => e = .returned (.int .u32 (reckV 116 s.a k)) ∧ w' = X) := fun X => refReckon_any 116 s.a k X hs.1 hk (fun h => absurd h (by decide)) rfl
  unfold Da.val
  obtain ⟨X, HX, hX⟩ := step_open w d (rcells p st s false).toArray
  obtain ⟨q1, q2, q3, q4⟩ := hat.below hX.bw
  obtain ⟨Y, HY⟩ : ∃ Y, Hid (X.alloc (Obj.cells #[.int .u16 116, .int .u8 t, .int .u8 f, .int .u32 k] 56) = Y) := ⟨_, rfl⟩
  have hP : Park w d X Y ⟨116, t, f, k⟩ p st s := step_park hX HY.out
  have HP : Hid (Park w d X Y ⟨116, t, f, k⟩ p st s) := hP
  obtain ⟨i1, i2, i3, i4⟩ := hP.ci
  have c0 : X.cell? ⟨w.heap.size + 1, 0, none⟩ = some (.int .i64 p) := Blk.cell hX.rb 0
  have e0 : Y.cell? ⟨w.heap.size + 1, 0, none⟩ = some (.int .i64 p) := Blk.cell hP.rb 0
  have e1 : Y.cell? ⟨w.heap.size + 1, 1, none⟩ = some (.int .i64 st) := Blk.cell hP.rb 1
  have e2 : Y.cell? ⟨w.heap.size + 1, 2, none⟩ = some (.int .u32 s.a) := Blk.cell hP.rb 2
  have e3 : Y.cell? ⟨w.heap.size + 1, 3, none⟩ = some (.int .u32 s.x) := Blk.cell hP.rb 3
  have e20 : Y.cell? ⟨w.heap.size + 1, 20, none⟩ = some (.bool false) := Blk.cell hP.rb 20
  have e21 : Y.cell? ⟨w.heap.size + 1, 21, none⟩ = some (.int .u32 s.ans) := Blk.cell hP.rb 21
  have f0 : ∀ i, Y.frozen? ⟨w.heap.size + 1, i, none⟩ = false := fun i => Blk.f hP.rb i
  have n1 : X.heap.size ≠ w.heap.size + 1 := by have := hX.sz; omega
  have n2 : w.heap.size + 1 ≠ X.heap.size := fun h => n1 h.symm
  have hi1 : (p : Int) < (len : Int) := by omega
  clear hs hk
  clear hat hX hP hd
  generalize hL : (rcells p st s false).toArray = L at HX ⊢
  clear hL
  go_enter Try.func38, Try.ntmps38
  go_wp2_with (first | (refine switch_world HX.out ?_) | (refine switch_world HY.out ?_) | (refine at_op (.load 77 (.tmp 5)) rfl ?_; refine wpList_load_row rfl 77 (.tmp 5) rfl (w.heap.size + 1) rfl 77 (rcells (p + 1) (st + 1) { s with a := reckV 116 s.a k } false).toArray (0, 0) _ (((HP.out.rb.setAt _).setSteps _).setA _) Try.underlying77 rfl r55 ?_) | (refine at_op (.store 77 (.tmp 6) (.tmp 176)) rfl ?_; refine wpList_store_row rfl 77 (.tmp 6) (.tmp 176) rfl (w.heap.size + 1 + 1) (rcells (p + 1) (st + 1) { s with a := reckV 116 s.a k } false).toArray rfl rfl 77 _ (((HP.out.rz.other _ _ (by show w.heap.size + 1 + 1 ≠ w.heap.size + 1; omega)).other _ _ (by show w.heap.size + 1 + 1 ≠ w.heap.size + 1; omega)).other _ _ (by show w.heap.size + 1 + 1 ≠ w.heap.size + 1; omega)) r55 rfl (rcells_one _ _ _ _) ?_) | (go_at_call 52; refine (HQ.out _).mono ?_; rintro e w2 ⟨rfl, rfl⟩))
  refine bodyPost_ret (v := .agg (rcells (p + 1) (st + 1) { s with a := reckV 116 s.a k } false).toArray) ?_ rfl ⟨rfl, ?_⟩
  · exact results_cell_row Try.results38 _ _ (w.heap.size + 1 + 1) 77 (rcells (p + 1) (st + 1) { s with a := reckV 116 s.a k } false).toArray (0, 0) _ rfl (Blk.row (((HP.out.rz.other _ _ (by show w.heap.size + 1 + 1 ≠ w.heap.size + 1; omega)).other _ _ (by show w.heap.size + 1 + 1 ≠ w.heap.size + 1; omega)).other _ _ (by show w.heap.size + 1 + 1 ≠ w.heap.size + 1; omega)) _) Try.underlying77 rfl r55
  · exact below_setRow (((HP.out.bw.setCell (by show w.heap.size ≤ w.heap.size + 1; omega) _).setCell (by show w.heap.size ≤ w.heap.size + 1; omega) _).setCell (by show w.heap.size ≤ w.heap.size + 1; omega) _) (show w.heap.size ≤ w.heap.size + 1 + 1 by omega) _

set_option maxRecDepth 8000 in
set_option maxHeartbeats 4000000 in
theorem step_164 (t f k : Int) (p st len cap ib off : Nat) (s : St) (d : Da) (w : World) (hd : d.ok) (hp : p < len) (hlen : len ≤ 4096) (hst : st ≤ 4096) (hs : s.ok) (hk : U32 k) (hat : In.at ⟨164, t, f, k⟩ w ib (off + p * 4)) :
    Calls Try.prog 38 #[.slice (some ⟨ib, off, none⟩) len cap, d.val, .agg (rcells p st s false).toArray] w fun e w' => e = .returned (.agg (rcells (p + 1) (st + 1) { s with a := reckV 164 s.a k } false).toArray) ∧ Below w.heap.size w w' := by
  have b8 : bits .and .u16 164 8 = 0 := by kernel_rfl
  have b7 : bits .and .u16 164 7 = 4 := by kernel_rfl
  have HQ : Hid (∀ X : World, Calls Try.prog 52 #[.int .u16 164, .int .u32 s.a, .int .u32 k] X fun e w' => e = .returned (.int .u32 (reckV 164 s.a k)) ∧ w' = X) := fun X => refReckon_any 164 s.a k X hs.1 hk (fun h => absurd h (by decide)) rfl
  unfold Da.val
  obtain ⟨X, HX, hX⟩ := step_open w d (rcells p st s false).toArray
  obtain ⟨q1, q2, q3, q4⟩ := hat.below hX.bw
  obtain ⟨Y, HY⟩ : ∃ Y, Hid (X.alloc (Obj.cells #[.int .u16 164, .int .u8 t, .int .u8 f, .int .u32 k] 56) = Y) := ⟨_, rfl⟩
  have hP : Park w d X Y ⟨164, t, f, k⟩ p st s := step_park hX HY.out
  have HP : Hid (Park w d X Y ⟨164, t, f, k⟩ p st s) := hP
  obtain ⟨i1, i2, i3, i4⟩ := hP.ci
  have c0 : X.cell? ⟨w.heap.size + 1, 0, none⟩ = some (.int .i64 p) := Blk.cell hX.rb 0
  have e0 : Y.cell? ⟨w.heap.size + 1, 0, none⟩ = some (.int .i64 p) := Blk.cell hP.rb 0
  have e1 : Y.cell? ⟨w.heap.size + 1, 1, none⟩ = some (.int .i64 st) := Blk.cell hP.rb 1
  have e2 : Y.cell? ⟨w.heap.size + 1, 2, none⟩ = some (.int .u32 s.a) := Blk.cell hP.rb 2
  have e3 : Y.cell? ⟨w.heap.size + 1, 3, none⟩ = some (.int .u32 s.x) := Blk.cell hP.rb 3
  have e20 : Y.cell? ⟨w.heap.size + 1, 20, none⟩ = some (.bool false) := Blk.cell hP.rb 20
  have e21 : Y.cell? ⟨w.heap.size + 1, 21, none⟩ = some (.int .u32 s.ans) := Blk.cell hP.rb 21
  have f0 : ∀ i, Y.frozen? ⟨w.heap.size + 1, i, none⟩ = false := fun i => Blk.f hP.rb i
  have n1 : X.heap.size ≠ w.heap.size + 1 := by have := hX.sz; omega
  have n2 : w.heap.size + 1 ≠ X.heap.size := fun h => n1 h.symm
  have hi1 : (p : Int) < (len : Int) := by omega
  clear hs hk
  clear hat hX hP hd
  generalize hL : (rcells p st s false).toArray = L at HX ⊢
  clear hL
  go_enter Try.func38, Try.ntmps38
  go_wp2_with (first | (refine switch_world HX.out ?_) | (refine switch_world HY.out ?_) | (refine at_op (.load 77 (.tmp 5)) rfl ?_; refine wpList_load_row rfl 77 (.tmp 5) rfl (w.heap.size + 1) rfl 77 (rcells (p + 1) (st + 1) { s with a := reckV 164 s.a k } false).toArray (0, 0) _ (((HP.out.rb.setAt _).setSteps _).setA _) Try.underlying77 rfl r55 ?_) | (refine at_op (.store 77 (.tmp 6) (.tmp 176)) rfl ?_; refine wpList_store_row rfl 77 (.tmp 6) (.tmp 176) rfl (w.heap.size + 1 + 1) (rcells (p + 1) (st + 1) { s with a := reckV 164 s.a k } false).toArray rfl rfl 77 _ (((HP.out.rz.other _ _ (by show w.heap.size + 1 + 1 ≠ w.heap.size + 1; omega)).other _ _ (by show w.heap.size + 1 + 1 ≠ w.heap.size + 1; omega)).other _ _ (by show w.heap.size + 1 + 1 ≠ w.heap.size + 1; omega)) r55 rfl (rcells_one _ _ _ _) ?_) | (go_at_call 52; refine (HQ.out _).mono ?_; rintro e w2 ⟨rfl, rfl⟩))
  refine bodyPost_ret (v := .agg (rcells (p + 1) (st + 1) { s with a := reckV 164 s.a k } false).toArray) ?_ rfl ⟨rfl, ?_⟩
  · exact results_cell_row Try.results38 _ _ (w.heap.size + 1 + 1) 77 (rcells (p + 1) (st + 1) { s with a := reckV 164 s.a k } false).toArray (0, 0) _ rfl (Blk.row (((HP.out.rz.other _ _ (by show w.heap.size + 1 + 1 ≠ w.heap.size + 1; omega)).other _ _ (by show w.heap.size + 1 + 1 ≠ w.heap.size + 1; omega)).other _ _ (by show w.heap.size + 1 + 1 ≠ w.heap.size + 1; omega)) _) Try.underlying77 rfl r55
  · exact below_setRow (((HP.out.bw.setCell (by show w.heap.size ≤ w.heap.size + 1; omega) _).setCell (by show w.heap.size ≤ w.heap.size + 1; omega) _).setCell (by show w.heap.size ≤ w.heap.size + 1; omega) _) (show w.heap.size ≤ w.heap.size + 1 + 1 by omega) _

end Go.Proofs.Ytamioifoemklfaa.V
