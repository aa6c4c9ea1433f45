/-
  The message of bytes, by the document: what ends too early.
-/
import Derived.Test.YtpdndcmaaghnjaaMsDr0
namespace Go.Proofs.Ytpdndcmaaghnjaa
open Go.RowKit
open D (Da Blk)
open K (numOf textF)

/-- two bytes as a number. -/
theorem two_at (l : List Int) (p : Nat) (h : p + 2 ≤ l.length) : numOf ((l.drop p).take 2) = l.getD p 0 * 256 + l.getD (p + 1) 0 := by
  rw [List.drop_eq_getElem_cons (by omega), List.drop_eq_getElem_cons (by omega), List.take_succ_cons, List.take_succ_cons, List.take_zero, numOf_two, List.getD_eq_getElem?_getD, List.getD_eq_getElem?_getD, List.getElem?_eq_getElem (by omega), List.getElem?_eq_getElem (by omega)]
  rfl
theorem text_at (l : List Int) (h : 84 ≤ l.length) : (84 + (numOf ((l.drop 82).take 2)).toNat ≤ l.length → ((l.drop 84).take (numOf ((l.drop 82).take 2)).toNat = (textF (l.drop 82)).1 ∧ (textF (l.drop 82)).2.1 = 2 + (numOf ((l.drop 82).take 2)).toNat ∧ (textF (l.drop 82)).2.2 = 0)) ∧
    (¬ 84 + (numOf ((l.drop 82).take 2)).toNat ≤ l.length → (textF (l.drop 82)).2.1 = 0 ∧ (textF (l.drop 82)).2.2 = 2) := by
  unfold textF
  rw [if_neg (by rw [List.length_drop]; omega), List.length_drop]
  constructor
  · intro h2
    rw [if_neg (by omega), List.drop_drop]
    exact ⟨rfl, rfl, rfl⟩
  · intro h2
    rw [if_pos (by omega)]
    exact ⟨rfl, rfl⟩
theorem text_byt {l : List Int} (h : D.Byt l) : D.Byt (textF (l.drop 82)).1 := by
  unfold textF
  split
  · exact fun z hz => by cases hz
  · split
    · exact fun z hz => by cases hz
    · exact fun z hz => h z (List.mem_of_mem_drop (List.mem_of_mem_drop (List.mem_of_mem_take hz)))
/-- a store into a field, in a region that draws; the world behind it is named anew. -/
theorem wp_store_x {P : Program} {o : Oper} {a : Act} {w : World} {K : Act → World → Prop} {Q : Exit → Act → World → Prop} (ty : TypeId) (x y : Operand) (ho : o.op = .store ty x y)
    (g i : Nat) (v : Value) (hx : a.eval x = .pointer (some ⟨g, i, none⟩)) (hy : a.eval y = v) {t : TypeId} {R : List Value} (hB : Blk w g t R) (hi : i < R.length) (hz : (P.info? ty).map (·.size) = some 1) (h1 : v.oneCell' = true)
    (h : ∀ X, X = w.setCell ⟨g, i, none⟩ v → K (a.put o.dst undef) X) : o.wp P a w K Q := by
  unfold Oper.wp execOp
  simp only [ho, hx, hy, Instr.storeAt, Instr.sureAddr, Sem.run_bind, Sem.run_pure, Result.andThen_ok, run_store_at hB hi hz h1]
  exact h _ rfl

set_option maxRecDepth 8000 in
set_option maxHeartbeats 1600000 in
theorem rd_short1 (b off len cap : Nat) (w : World) (hlen : 0 < len) (hc : w.cell? ⟨b, off, none⟩ = some (.int .u8 1)) (hs : len < 9) : Calls Try.prog 14 #[.slice (some ⟨b, off, none⟩) len cap] w fun e w' => e = .returned (.tuple #[Mg.zero.vl, .int .i64 2]) ∧ Below w.heap.size w w' := by
  have Z0 := two_blk w zero15
  have hc1 : ∀ o, (w.alloc o).cell? ⟨b, off, none⟩ = some (.int .u8 1) := fun o => by rw [(room1 w o).cell (p := ⟨b, off, none⟩) (World.block_lt_of_cell? w _ hc)]; exact hc
  have c0 := hc1 (Obj.cells zero15.toArray 28)
  have h0 : ((len : Int) == 0) = false := beq_false_of_ne (by omega)
  have h1 : decide ((len : Int) < 9) = true := decide_eq_true (by omega)
  rw [zero_vl]
  clear hc hc1 hs
  unfold zero15 at *
  go_enter Try.func14, Try.ntmps14
  go_upto_region 4 with (refine at_op (.store 28 (.tmp 4) (.tmp 23)) rfl ?_; refine wpList_store_r rfl 28 (.tmp 4) (.tmp 23) rfl (w.heap.size + 1) (Mg.mk 1 0 0 0 0 Da.zero []).cells.toArray rfl rfl 28 _ Z0.2.1 Try.size28 rfl (Mg.cells_one _) ?_; intro X0 hX0; have K0 : Mk w w.heap.size (w.heap.size + 1) zero15 (Mg.mk 1 0 0 0 0 Da.zero []) X0 := mk_first Z0 hX0; clear hX0 Z0 c0; have d0 : X0.cell? ⟨w.heap.size + 1, 0, none⟩ = some (.int .i64 1) := K0.dst.cell 0)
  go_upto_region 13 with fail
  go_wp2_with (refine at_op (.store 28 (.tmp 2) (.tmp 56)) rfl ?_; refine wpList_store_row rfl 28 (.tmp 2) (.tmp 56) rfl w.heap.size #[.int .i64 0, .int .u64 0, .int .u64 0, .int .i64 0, .int .i64 0, .int .u32 0, .int .u32 0, .int .u64 0, .int .u64 0, .int .u64 0, .int .u64 0, .int .u64 0, .int .u64 0, .int .u64 0, .string ⟨#[]⟩] rfl rfl 28 _ K0.src size15 rfl one15 ?_)
  exact bodyPost_ret (results_mg Try.results14 _ _ w.heap.size zero15 _ rfl (K0.src.row zero15.toArray) size15 rfl) rfl ⟨rfl, below_setRow K0.b (Nat.le_refl _) _⟩

set_option maxRecDepth 8000 in
set_option maxHeartbeats 1600000 in
theorem rd_short2 (b off len cap : Nat) (w : World) (hlen : 0 < len) (hc : w.cell? ⟨b, off, none⟩ = some (.int .u8 2)) (hs : len < 84) : Calls Try.prog 14 #[.slice (some ⟨b, off, none⟩) len cap] w fun e w' => e = .returned (.tuple #[Mg.zero.vl, .int .i64 2]) ∧ Below w.heap.size w w' := by
  have Z0 := two_blk w zero15
  have hc1 : ∀ o, (w.alloc o).cell? ⟨b, off, none⟩ = some (.int .u8 2) := fun o => by rw [(room1 w o).cell (p := ⟨b, off, none⟩) (World.block_lt_of_cell? w _ hc)]; exact hc
  have c0 := hc1 (Obj.cells zero15.toArray 28)
  have h0 : ((len : Int) == 0) = false := beq_false_of_ne (by omega)
  have h1 : decide ((len : Int) < 84) = true := decide_eq_true (by omega)
  rw [zero_vl]
  clear hc hc1 hs
  unfold zero15 at *
  go_enter Try.func14, Try.ntmps14
  go_upto_region 4 with (refine at_op (.store 28 (.tmp 4) (.tmp 23)) rfl ?_; refine wpList_store_r rfl 28 (.tmp 4) (.tmp 23) rfl (w.heap.size + 1) (Mg.mk 2 0 0 0 0 Da.zero []).cells.toArray rfl rfl 28 _ Z0.2.1 Try.size28 rfl (Mg.cells_one _) ?_; intro X0 hX0; have K0 : Mk w w.heap.size (w.heap.size + 1) zero15 (Mg.mk 2 0 0 0 0 Da.zero []) X0 := mk_first Z0 hX0; clear hX0 Z0 c0; have d0 : X0.cell? ⟨w.heap.size + 1, 0, none⟩ = some (.int .i64 2) := K0.dst.cell 0)
  go_upto_region 13 with fail
  go_wp2_with (refine at_op (.store 28 (.tmp 2) (.tmp 56)) rfl ?_; refine wpList_store_row rfl 28 (.tmp 2) (.tmp 56) rfl w.heap.size #[.int .i64 0, .int .u64 0, .int .u64 0, .int .i64 0, .int .i64 0, .int .u32 0, .int .u32 0, .int .u64 0, .int .u64 0, .int .u64 0, .int .u64 0, .int .u64 0, .int .u64 0, .int .u64 0, .string ⟨#[]⟩] rfl rfl 28 _ K0.src size15 rfl one15 ?_)
  exact bodyPost_ret (results_mg Try.results14 _ _ w.heap.size zero15 _ rfl (K0.src.row zero15.toArray) size15 rfl) rfl ⟨rfl, below_setRow K0.b (Nat.le_refl _) _⟩

set_option maxRecDepth 8000 in
set_option maxHeartbeats 1600000 in
theorem rd_short3 (b off len cap : Nat) (w : World) (hlen : 0 < len) (hc : w.cell? ⟨b, off, none⟩ = some (.int .u8 3)) (hs : len < 17) : Calls Try.prog 14 #[.slice (some ⟨b, off, none⟩) len cap] w fun e w' => e = .returned (.tuple #[Mg.zero.vl, .int .i64 2]) ∧ Below w.heap.size w w' := by
  have Z0 := two_blk w zero15
  have hc1 : ∀ o, (w.alloc o).cell? ⟨b, off, none⟩ = some (.int .u8 3) := fun o => by rw [(room1 w o).cell (p := ⟨b, off, none⟩) (World.block_lt_of_cell? w _ hc)]; exact hc
  have c0 := hc1 (Obj.cells zero15.toArray 28)
  have h0 : ((len : Int) == 0) = false := beq_false_of_ne (by omega)
  have h1 : decide ((len : Int) < 17) = true := decide_eq_true (by omega)
  rw [zero_vl]
  clear hc hc1 hs
  unfold zero15 at *
  go_enter Try.func14, Try.ntmps14
  go_upto_region 4 with (refine at_op (.store 28 (.tmp 4) (.tmp 23)) rfl ?_; refine wpList_store_r rfl 28 (.tmp 4) (.tmp 23) rfl (w.heap.size + 1) (Mg.mk 3 0 0 0 0 Da.zero []).cells.toArray rfl rfl 28 _ Z0.2.1 Try.size28 rfl (Mg.cells_one _) ?_; intro X0 hX0; have K0 : Mk w w.heap.size (w.heap.size + 1) zero15 (Mg.mk 3 0 0 0 0 Da.zero []) X0 := mk_first Z0 hX0; clear hX0 Z0 c0; have d0 : X0.cell? ⟨w.heap.size + 1, 0, none⟩ = some (.int .i64 3) := K0.dst.cell 0)
  go_upto_region 13 with fail
  go_wp2_with (refine at_op (.store 28 (.tmp 2) (.tmp 56)) rfl ?_; refine wpList_store_row rfl 28 (.tmp 2) (.tmp 56) rfl w.heap.size #[.int .i64 0, .int .u64 0, .int .u64 0, .int .i64 0, .int .i64 0, .int .u32 0, .int .u32 0, .int .u64 0, .int .u64 0, .int .u64 0, .int .u64 0, .int .u64 0, .int .u64 0, .int .u64 0, .string ⟨#[]⟩] rfl rfl 28 _ K0.src size15 rfl one15 ?_)
  exact bodyPost_ret (results_mg Try.results14 _ _ w.heap.size zero15 _ rfl (K0.src.row zero15.toArray) size15 rfl) rfl ⟨rfl, below_setRow K0.b (Nat.le_refl _) _⟩

set_option maxRecDepth 8000 in
set_option maxHeartbeats 1600000 in
theorem rd_short4 (b off len cap : Nat) (w : World) (hlen : 0 < len) (hc : w.cell? ⟨b, off, none⟩ = some (.int .u8 4)) (hs : len < 19) : Calls Try.prog 14 #[.slice (some ⟨b, off, none⟩) len cap] w fun e w' => e = .returned (.tuple #[Mg.zero.vl, .int .i64 2]) ∧ Below w.heap.size w w' := by
  have Z0 := two_blk w zero15
  have hc1 : ∀ o, (w.alloc o).cell? ⟨b, off, none⟩ = some (.int .u8 4) := fun o => by rw [(room1 w o).cell (p := ⟨b, off, none⟩) (World.block_lt_of_cell? w _ hc)]; exact hc
  have c0 := hc1 (Obj.cells zero15.toArray 28)
  have h0 : ((len : Int) == 0) = false := beq_false_of_ne (by omega)
  have h1 : decide ((len : Int) < 19) = true := decide_eq_true (by omega)
  rw [zero_vl]
  clear hc hc1 hs
  unfold zero15 at *
  go_enter Try.func14, Try.ntmps14
  go_upto_region 4 with (refine at_op (.store 28 (.tmp 4) (.tmp 23)) rfl ?_; refine wpList_store_r rfl 28 (.tmp 4) (.tmp 23) rfl (w.heap.size + 1) (Mg.mk 4 0 0 0 0 Da.zero []).cells.toArray rfl rfl 28 _ Z0.2.1 Try.size28 rfl (Mg.cells_one _) ?_; intro X0 hX0; have K0 : Mk w w.heap.size (w.heap.size + 1) zero15 (Mg.mk 4 0 0 0 0 Da.zero []) X0 := mk_first Z0 hX0; clear hX0 Z0 c0; have d0 : X0.cell? ⟨w.heap.size + 1, 0, none⟩ = some (.int .i64 4) := K0.dst.cell 0)
  go_upto_region 13 with fail
  go_wp2_with (refine at_op (.store 28 (.tmp 2) (.tmp 56)) rfl ?_; refine wpList_store_row rfl 28 (.tmp 2) (.tmp 56) rfl w.heap.size #[.int .i64 0, .int .u64 0, .int .u64 0, .int .i64 0, .int .i64 0, .int .u32 0, .int .u32 0, .int .u64 0, .int .u64 0, .int .u64 0, .int .u64 0, .int .u64 0, .int .u64 0, .int .u64 0, .string ⟨#[]⟩] rfl rfl 28 _ K0.src size15 rfl one15 ?_)
  exact bodyPost_ret (results_mg Try.results14 _ _ w.heap.size zero15 _ rfl (K0.src.row zero15.toArray) size15 rfl) rfl ⟨rfl, below_setRow K0.b (Nat.le_refl _) _⟩

set_option maxRecDepth 8000 in
set_option maxHeartbeats 1600000 in
theorem rd_short5 (b off len cap : Nat) (w : World) (hlen : 0 < len) (hc : w.cell? ⟨b, off, none⟩ = some (.int .u8 5)) (hs : len < 19) : Calls Try.prog 14 #[.slice (some ⟨b, off, none⟩) len cap] w fun e w' => e = .returned (.tuple #[Mg.zero.vl, .int .i64 2]) ∧ Below w.heap.size w w' := by
  have Z0 := two_blk w zero15
  have hc1 : ∀ o, (w.alloc o).cell? ⟨b, off, none⟩ = some (.int .u8 5) := fun o => by rw [(room1 w o).cell (p := ⟨b, off, none⟩) (World.block_lt_of_cell? w _ hc)]; exact hc
  have c0 := hc1 (Obj.cells zero15.toArray 28)
  have h0 : ((len : Int) == 0) = false := beq_false_of_ne (by omega)
  have h1 : decide ((len : Int) < 19) = true := decide_eq_true (by omega)
  rw [zero_vl]
  clear hc hc1 hs
  unfold zero15 at *
  go_enter Try.func14, Try.ntmps14
  go_upto_region 4 with (refine at_op (.store 28 (.tmp 4) (.tmp 23)) rfl ?_; refine wpList_store_r rfl 28 (.tmp 4) (.tmp 23) rfl (w.heap.size + 1) (Mg.mk 5 0 0 0 0 Da.zero []).cells.toArray rfl rfl 28 _ Z0.2.1 Try.size28 rfl (Mg.cells_one _) ?_; intro X0 hX0; have K0 : Mk w w.heap.size (w.heap.size + 1) zero15 (Mg.mk 5 0 0 0 0 Da.zero []) X0 := mk_first Z0 hX0; clear hX0 Z0 c0; have d0 : X0.cell? ⟨w.heap.size + 1, 0, none⟩ = some (.int .i64 5) := K0.dst.cell 0)
  go_upto_region 13 with fail
  go_wp2_with (refine at_op (.store 28 (.tmp 2) (.tmp 56)) rfl ?_; refine wpList_store_row rfl 28 (.tmp 2) (.tmp 56) rfl w.heap.size #[.int .i64 0, .int .u64 0, .int .u64 0, .int .i64 0, .int .i64 0, .int .u32 0, .int .u32 0, .int .u64 0, .int .u64 0, .int .u64 0, .int .u64 0, .int .u64 0, .int .u64 0, .int .u64 0, .string ⟨#[]⟩] rfl rfl 28 _ K0.src size15 rfl one15 ?_)
  exact bodyPost_ret (results_mg Try.results14 _ _ w.heap.size zero15 _ rfl (K0.src.row zero15.toArray) size15 rfl) rfl ⟨rfl, below_setRow K0.b (Nat.le_refl _) _⟩

set_option maxRecDepth 8000 in
set_option maxHeartbeats 1600000 in
theorem rd_short6 (b off len cap : Nat) (w : World) (hlen : 0 < len) (hc : w.cell? ⟨b, off, none⟩ = some (.int .u8 6)) (hs : len < 17) : Calls Try.prog 14 #[.slice (some ⟨b, off, none⟩) len cap] w fun e w' => e = .returned (.tuple #[Mg.zero.vl, .int .i64 2]) ∧ Below w.heap.size w w' := by
  have Z0 := two_blk w zero15
  have hc1 : ∀ o, (w.alloc o).cell? ⟨b, off, none⟩ = some (.int .u8 6) := fun o => by rw [(room1 w o).cell (p := ⟨b, off, none⟩) (World.block_lt_of_cell? w _ hc)]; exact hc
  have c0 := hc1 (Obj.cells zero15.toArray 28)
  have h0 : ((len : Int) == 0) = false := beq_false_of_ne (by omega)
  have h1 : decide ((len : Int) < 17) = true := decide_eq_true (by omega)
  rw [zero_vl]
  clear hc hc1 hs
  unfold zero15 at *
  go_enter Try.func14, Try.ntmps14
  go_upto_region 4 with (refine at_op (.store 28 (.tmp 4) (.tmp 23)) rfl ?_; refine wpList_store_r rfl 28 (.tmp 4) (.tmp 23) rfl (w.heap.size + 1) (Mg.mk 6 0 0 0 0 Da.zero []).cells.toArray rfl rfl 28 _ Z0.2.1 Try.size28 rfl (Mg.cells_one _) ?_; intro X0 hX0; have K0 : Mk w w.heap.size (w.heap.size + 1) zero15 (Mg.mk 6 0 0 0 0 Da.zero []) X0 := mk_first Z0 hX0; clear hX0 Z0 c0; have d0 : X0.cell? ⟨w.heap.size + 1, 0, none⟩ = some (.int .i64 6) := K0.dst.cell 0)
  go_upto_region 13 with fail
  go_wp2_with (refine at_op (.store 28 (.tmp 2) (.tmp 56)) rfl ?_; refine wpList_store_row rfl 28 (.tmp 2) (.tmp 56) rfl w.heap.size #[.int .i64 0, .int .u64 0, .int .u64 0, .int .i64 0, .int .i64 0, .int .u32 0, .int .u32 0, .int .u64 0, .int .u64 0, .int .u64 0, .int .u64 0, .int .u64 0, .int .u64 0, .int .u64 0, .string ⟨#[]⟩] rfl rfl 28 _ K0.src size15 rfl one15 ?_)
  exact bodyPost_ret (results_mg Try.results14 _ _ w.heap.size zero15 _ rfl (K0.src.row zero15.toArray) size15 rfl) rfl ⟨rfl, below_setRow K0.b (Nat.le_refl _) _⟩

set_option maxRecDepth 8000 in
set_option maxHeartbeats 1600000 in
theorem rd_short7 (b off len cap : Nat) (w : World) (hlen : 0 < len) (hc : w.cell? ⟨b, off, none⟩ = some (.int .u8 7)) (hs : len < 19) : Calls Try.prog 14 #[.slice (some ⟨b, off, none⟩) len cap] w fun e w' => e = .returned (.tuple #[Mg.zero.vl, .int .i64 2]) ∧ Below w.heap.size w w' := by
  have Z0 := two_blk w zero15
  have hc1 : ∀ o, (w.alloc o).cell? ⟨b, off, none⟩ = some (.int .u8 7) := fun o => by rw [(room1 w o).cell (p := ⟨b, off, none⟩) (World.block_lt_of_cell? w _ hc)]; exact hc
  have c0 := hc1 (Obj.cells zero15.toArray 28)
  have h0 : ((len : Int) == 0) = false := beq_false_of_ne (by omega)
  have h1 : decide ((len : Int) < 19) = true := decide_eq_true (by omega)
  rw [zero_vl]
  clear hc hc1 hs
  unfold zero15 at *
  go_enter Try.func14, Try.ntmps14
  go_upto_region 4 with (refine at_op (.store 28 (.tmp 4) (.tmp 23)) rfl ?_; refine wpList_store_r rfl 28 (.tmp 4) (.tmp 23) rfl (w.heap.size + 1) (Mg.mk 7 0 0 0 0 Da.zero []).cells.toArray rfl rfl 28 _ Z0.2.1 Try.size28 rfl (Mg.cells_one _) ?_; intro X0 hX0; have K0 : Mk w w.heap.size (w.heap.size + 1) zero15 (Mg.mk 7 0 0 0 0 Da.zero []) X0 := mk_first Z0 hX0; clear hX0 Z0 c0; have d0 : X0.cell? ⟨w.heap.size + 1, 0, none⟩ = some (.int .i64 7) := K0.dst.cell 0)
  go_upto_region 13 with fail
  go_wp2_with (refine at_op (.store 28 (.tmp 2) (.tmp 56)) rfl ?_; refine wpList_store_row rfl 28 (.tmp 2) (.tmp 56) rfl w.heap.size #[.int .i64 0, .int .u64 0, .int .u64 0, .int .i64 0, .int .i64 0, .int .u32 0, .int .u32 0, .int .u64 0, .int .u64 0, .int .u64 0, .int .u64 0, .int .u64 0, .int .u64 0, .int .u64 0, .string ⟨#[]⟩] rfl rfl 28 _ K0.src size15 rfl one15 ?_)
  exact bodyPost_ret (results_mg Try.results14 _ _ w.heap.size zero15 _ rfl (K0.src.row zero15.toArray) size15 rfl) rfl ⟨rfl, below_setRow K0.b (Nat.le_refl _) _⟩

end Go.Proofs.Ytpdndcmaaghnjaa
