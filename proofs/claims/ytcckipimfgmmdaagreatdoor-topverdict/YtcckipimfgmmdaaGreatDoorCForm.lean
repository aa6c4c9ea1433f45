/-
  The form of a condition whose op stands in forms, and the form that is turned about: proved.
-/
import Derived.Test.YtcckipimfgmmdaaGreatDoorCHeld
import Derived.Deep.RegionHeld3
namespace Go.Proofs.YtcckipimfgmmdaaGreatDoor.C
open Go.RowKit

/-- the operation that comes next. -/
theorem at_op {P : Program} {ops : Array Oper} {Q : Exit → Act → World → Prop} {rest : List Oper} {o : Oper} {a : Act} {w : World} (op : Op) (_ho : o.op = op) (h : wpList P ops Q (o :: rest) a w) : wpList P ops Q (o :: rest) a w := h

/-- a condition, and room for a form. -/
theorem room (w : World) (cs : Array Value) (t : TypeId) : Blk ((w.alloc (Obj.cells cs t)).alloc (Obj.cells #[.bool false, .bool false, .bool false, .int .i64 0, .int .u64 0, .int .u64 0] 239)) (w.heap.size + 1) 239 [.bool false, .bool false, .bool false, .int .i64 0, .int .u64 0, .int .u64 0] := blk_new' w _ _ 239

theorem room_below (w : World) (o o' : Obj) : Below w.heap.size w ((w.alloc o).alloc o') := (below_new w o).alloc (below_new w o).size _

theorem no_one (n : No) : n.cells.toArray.all (·.oneCell') = true := by simp [No.cells, Value.oneCell']
theorem no_size (n : No) : (Tryz.prog.info? 239).map (·.size) = some n.cells.toArray.size := Tryz.size239


theorem form_1_never (a m v : Int) (w : World) (h : (bits BinOp.andNot IntKind.u64 v m == 0) = false) :
    Calls Tryz.prog 186 #[.agg #[.int .i64 a, .int .i64 1, .int .u64 m, .int .u64 v]] w fun e w' => e = .returned never.val ∧ Below w.heap.size w w' := by
  have HN : Hid (∀ W : World, Calls Tryz.prog 184 #[] W fun e w' => e = .returned never.val ∧ Below W.heap.size W w') := never_any
  have HZ : Hid (∀ cs : Array Value, Blk ((w.alloc (Obj.cells cs 139)).alloc (Obj.cells #[.bool false, .bool false, .bool false, .int .i64 0, .int .u64 0, .int .u64 0] 239)) (w.heap.size + 1) 239 [.bool false, .bool false, .bool false, .int .i64 0, .int .u64 0, .int .u64 0]) := fun cs => room w cs 139
  have HB : Hid (∀ o o', Below w.heap.size w ((w.alloc o).alloc o')) := room_below w
  go_enter Tryz.func186, Tryz.ntmps186
  go_wp2_with (first | (go_at_call 184; refine (HN.out _).mono ?_; rintro e w1 ⟨rfl, b1⟩; have D1 : Hid (Blk w1 (w.heap.size + 1) 239 [.bool false, .bool false, .bool false, .int .i64 0, .int .u64 0, .int .u64 0]) := (HZ.out _).over b1; have B1 : Hid (Below w.heap.size w w1) := (HB.out _ _).trans (b1.mono (HB.out _ _).size); clear b1) | (refine at_op (.store 239 (.tmp 2) (.tmp 35)) rfl ?_; refine wpList_store_row rfl 239 (.tmp 2) (.tmp 35) rfl (w.heap.size + 1) never.cells.toArray rfl rfl 239 _ D1.out (no_size _) rfl (no_one _) ?_))
  refine bodyPost_ret (v := never.val) ?_ rfl ⟨rfl, ?_⟩
  · exact results_cell_row Tryz.results186 _ _ (w.heap.size + 1) 239 never.cells.toArray (0, 0) _ rfl (Blk.row D1.out _) Tryz.underlying239 rfl (no_size _)
  · exact below_setRow B1.out (Nat.le_succ _) _

theorem form_1_plain (a m v : Int) (w : World) (h : (bits BinOp.andNot IntKind.u64 v m == 0) = true) :
    Calls Tryz.prog 186 #[.agg #[.int .i64 a, .int .i64 1, .int .u64 m, .int .u64 v]] w fun e w' => e = .returned (No.mk false false false 1 m v).val ∧ Below w.heap.size w w' := by
  have HB : Hid (∀ o o', Below w.heap.size w ((w.alloc o).alloc o')) := room_below w
  go_enter Tryz.func186, Tryz.ntmps186
  go_wp2
  refine bodyPost_ret (v := (No.mk false false false 1 m v).val) (by simp [results, Tryz.results186, go_sem, No.val, No.cells]) rfl ⟨rfl, ?_⟩
  exact HB.out _ _

theorem form_5_never (a m v : Int) (w : World) (h : m ≤ v) :
    Calls Tryz.prog 186 #[.agg #[.int .i64 a, .int .i64 5, .int .u64 m, .int .u64 v]] w fun e w' => e = .returned never.val ∧ Below w.heap.size w w' := by
  have HN : Hid (∀ W : World, Calls Tryz.prog 184 #[] W fun e w' => e = .returned never.val ∧ Below W.heap.size W w') := never_any
  have HZ : Hid (∀ cs : Array Value, Blk ((w.alloc (Obj.cells cs 139)).alloc (Obj.cells #[.bool false, .bool false, .bool false, .int .i64 0, .int .u64 0, .int .u64 0] 239)) (w.heap.size + 1) 239 [.bool false, .bool false, .bool false, .int .i64 0, .int .u64 0, .int .u64 0]) := fun cs => room w cs 139
  have HB : Hid (∀ o o', Below w.heap.size w ((w.alloc o).alloc o')) := room_below w
  go_enter Tryz.func186, Tryz.ntmps186
  go_wp2_with (first | (go_at_call 184; refine (HN.out _).mono ?_; rintro e w1 ⟨rfl, b1⟩; have D1 : Hid (Blk w1 (w.heap.size + 1) 239 [.bool false, .bool false, .bool false, .int .i64 0, .int .u64 0, .int .u64 0]) := (HZ.out _).over b1; have B1 : Hid (Below w.heap.size w w1) := (HB.out _ _).trans (b1.mono (HB.out _ _).size); clear b1) | (refine at_op (.store 239 (.tmp 2) (.tmp 35)) rfl ?_; refine wpList_store_row rfl 239 (.tmp 2) (.tmp 35) rfl (w.heap.size + 1) never.cells.toArray rfl rfl 239 _ D1.out (no_size _) rfl (no_one _) ?_))
  refine bodyPost_ret (v := never.val) ?_ rfl ⟨rfl, ?_⟩
  · exact results_cell_row Tryz.results186 _ _ (w.heap.size + 1) 239 never.cells.toArray (0, 0) _ rfl (Blk.row D1.out _) Tryz.underlying239 rfl (no_size _)
  · exact below_setRow B1.out (Nat.le_succ _) _

theorem form_5_plain (a m v : Int) (w : World) (h : v < m) :
    Calls Tryz.prog 186 #[.agg #[.int .i64 a, .int .i64 5, .int .u64 m, .int .u64 v]] w fun e w' => e = .returned (No.mk false false false 5 m v).val ∧ Below w.heap.size w w' := by
  have HB : Hid (∀ o o', Below w.heap.size w ((w.alloc o).alloc o')) := room_below w
  go_enter Tryz.func186, Tryz.ntmps186
  go_wp2
  refine bodyPost_ret (v := (No.mk false false false 5 m v).val) (by simp [results, Tryz.results186, go_sem, No.val, No.cells]) rfl ⟨rfl, ?_⟩
  exact HB.out _ _

theorem form_6_never (a m v : Int) (w : World) (h : m < v) :
    Calls Tryz.prog 186 #[.agg #[.int .i64 a, .int .i64 6, .int .u64 m, .int .u64 v]] w fun e w' => e = .returned never.val ∧ Below w.heap.size w w' := by
  have HN : Hid (∀ W : World, Calls Tryz.prog 184 #[] W fun e w' => e = .returned never.val ∧ Below W.heap.size W w') := never_any
  have HZ : Hid (∀ cs : Array Value, Blk ((w.alloc (Obj.cells cs 139)).alloc (Obj.cells #[.bool false, .bool false, .bool false, .int .i64 0, .int .u64 0, .int .u64 0] 239)) (w.heap.size + 1) 239 [.bool false, .bool false, .bool false, .int .i64 0, .int .u64 0, .int .u64 0]) := fun cs => room w cs 139
  have HB : Hid (∀ o o', Below w.heap.size w ((w.alloc o).alloc o')) := room_below w
  go_enter Tryz.func186, Tryz.ntmps186
  go_wp2_with (first | (go_at_call 184; refine (HN.out _).mono ?_; rintro e w1 ⟨rfl, b1⟩; have D1 : Hid (Blk w1 (w.heap.size + 1) 239 [.bool false, .bool false, .bool false, .int .i64 0, .int .u64 0, .int .u64 0]) := (HZ.out _).over b1; have B1 : Hid (Below w.heap.size w w1) := (HB.out _ _).trans (b1.mono (HB.out _ _).size); clear b1) | (refine at_op (.store 239 (.tmp 2) (.tmp 35)) rfl ?_; refine wpList_store_row rfl 239 (.tmp 2) (.tmp 35) rfl (w.heap.size + 1) never.cells.toArray rfl rfl 239 _ D1.out (no_size _) rfl (no_one _) ?_))
  refine bodyPost_ret (v := never.val) ?_ rfl ⟨rfl, ?_⟩
  · exact results_cell_row Tryz.results186 _ _ (w.heap.size + 1) 239 never.cells.toArray (0, 0) _ rfl (Blk.row D1.out _) Tryz.underlying239 rfl (no_size _)
  · exact below_setRow B1.out (Nat.le_succ _) _

theorem form_6_always (a m v : Int) (w : World) (h : v ≤ m) (h0 : (v == 0) = true) :
    Calls Tryz.prog 186 #[.agg #[.int .i64 a, .int .i64 6, .int .u64 m, .int .u64 v]] w fun e w' => e = .returned always.val ∧ Below w.heap.size w w' := by
  have HN : Hid (∀ W : World, Calls Tryz.prog 195 #[] W fun e w' => e = .returned always.val ∧ Below W.heap.size W w') := always_any
  have HZ : Hid (∀ cs : Array Value, Blk ((w.alloc (Obj.cells cs 139)).alloc (Obj.cells #[.bool false, .bool false, .bool false, .int .i64 0, .int .u64 0, .int .u64 0] 239)) (w.heap.size + 1) 239 [.bool false, .bool false, .bool false, .int .i64 0, .int .u64 0, .int .u64 0]) := fun cs => room w cs 139
  have HB : Hid (∀ o o', Below w.heap.size w ((w.alloc o).alloc o')) := room_below w
  go_enter Tryz.func186, Tryz.ntmps186
  go_wp2_with (first | (go_at_call 195; refine (HN.out _).mono ?_; rintro e w1 ⟨rfl, b1⟩; have D1 : Hid (Blk w1 (w.heap.size + 1) 239 [.bool false, .bool false, .bool false, .int .i64 0, .int .u64 0, .int .u64 0]) := (HZ.out _).over b1; have B1 : Hid (Below w.heap.size w w1) := (HB.out _ _).trans (b1.mono (HB.out _ _).size); clear b1) | (refine at_op (.store 239 (.tmp 2) (.tmp 45)) rfl ?_; refine wpList_store_row rfl 239 (.tmp 2) (.tmp 45) rfl (w.heap.size + 1) always.cells.toArray rfl rfl 239 _ D1.out (no_size _) rfl (no_one _) ?_))
  refine bodyPost_ret (v := always.val) ?_ rfl ⟨rfl, ?_⟩
  · exact results_cell_row Tryz.results186 _ _ (w.heap.size + 1) 239 always.cells.toArray (0, 0) _ rfl (Blk.row D1.out _) Tryz.underlying239 rfl (no_size _)
  · exact below_setRow B1.out (Nat.le_succ _) _

theorem form_6_plain (a m v : Int) (w : World) (h : v ≤ m) (h0 : (v == 0) = false) :
    Calls Tryz.prog 186 #[.agg #[.int .i64 a, .int .i64 6, .int .u64 m, .int .u64 v]] w fun e w' => e = .returned (No.mk false false false 6 m v).val ∧ Below w.heap.size w w' := by
  have HB : Hid (∀ o o', Below w.heap.size w ((w.alloc o).alloc o')) := room_below w
  go_enter Tryz.func186, Tryz.ntmps186
  go_wp2
  refine bodyPost_ret (v := (No.mk false false false 6 m v).val) (by simp [results, Tryz.results186, go_sem, No.val, No.cells]) rfl ⟨rfl, ?_⟩
  exact HB.out _ _

theorem form_any (a o m v : Int) (w : World) (ho : hasF o = true) :
    Calls Tryz.prog 186 #[.agg #[.int .i64 a, .int .i64 o, .int .u64 m, .int .u64 v]] w fun e w' => e = .returned (formN o m v).val ∧ Below w.heap.size w w' := by
  have hcase : o = 1 ∨ o = 5 ∨ o = 6 := by simpa [hasF, or_assoc] using ho
  rcases hcase with rfl | rfl | rfl
  · by_cases h : outB v m = true
    · have e : formN 1 m v = never := by simp [formN, h]
      rw [e]
      exact form_1_never a m v w (by simpa [outB] using h)
    · have e : formN 1 m v = ⟨false, false, false, 1, m, v⟩ := by simp [formN, h]
      rw [e]
      exact form_1_plain a m v w (by simpa [outB] using h)
  · by_cases h : m ≤ v
    · have e : formN 5 m v = never := by simp [formN, h]
      rw [e]
      exact form_5_never a m v w h
    · have e : formN 5 m v = ⟨false, false, false, 5, m, v⟩ := by simp [formN, h]
      rw [e]
      exact form_5_plain a m v w (by omega)
  · by_cases h : m < v
    · have e : formN 6 m v = never := by simp [formN, h]
      rw [e]
      exact form_6_never a m v w h
    · by_cases h0 : v = 0
      · have e : formN 6 m v = always := by subst h0; simp [formN, h]
        rw [e]
        exact form_6_always a m v w (by omega) (by simp [h0])
      · have e : formN 6 m v = ⟨false, false, false, 6, m, v⟩ := by simp [formN, h, h0]
        rw [e]
        exact form_6_plain a m v w (by omega) (by simp [h0])

end Go.Proofs.YtcckipimfgmmdaaGreatDoor.C
