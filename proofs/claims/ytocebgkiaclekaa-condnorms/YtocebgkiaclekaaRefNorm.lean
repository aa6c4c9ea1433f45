/-
  A condition's one form, by the document's table: proved of every condition.
-/
import Derived.Test.YtocebgkiaclekaaNot
namespace Go.Proofs.Ytocebgkiaclekaa
open Go.RowKit

/-- a condition, room for a form, the forms Always and Never, each in a box of its own; and all that was there stands. -/
structure Kf (w : World) (l : List Value) (X : World) : Prop where
  c : Blk X w.heap.size 24 l
  r : Blk X (w.heap.size + 1) 36 [.bool false, .bool false, .bool false, .int .i64 0, .int .u64 0, .int .u64 0]
  al : Blk X (w.heap.size + 1 + 1) 36 [.bool true, .bool false, .bool false, .int .i64 0, .int .u64 0, .int .u64 0]
  ne : Blk X (w.heap.size + 1 + 1 + 1) 36 [.bool false, .bool true, .bool false, .int .i64 0, .int .u64 0, .int .u64 0]
  bw : Below w.heap.size w X

theorem Kf.over {w X Y : World} {l : List Value} (h : Kf w l X) (hb : Below X.heap.size X Y) : Kf w l Y := ⟨h.c.over hb, h.r.over hb, h.al.over hb, h.ne.over hb, h.bw.trans (hb.mono h.bw.size)⟩

theorem kf_new (w : World) (l : List Value) : Kf w l ((((w.alloc (Obj.cells l.toArray 24)).alloc (Obj.cells #[.bool false, .bool false, .bool false, .int .i64 0, .int .u64 0, .int .u64 0] 36)).alloc (Obj.cells #[.bool true, .bool false, .bool false, .int .i64 0, .int .u64 0, .int .u64 0] 36)).alloc (Obj.cells #[.bool false, .bool true, .bool false, .int .i64 0, .int .u64 0, .int .u64 0] 36)) := by
  have h1 := blk_new' (w.alloc (Obj.cells l.toArray 24)) (Obj.cells #[.bool false, .bool false, .bool false, .int .i64 0, .int .u64 0, .int .u64 0] 36) #[.bool true, .bool false, .bool false, .int .i64 0, .int .u64 0, .int .u64 0] 36
  have h2 := blk_new' ((w.alloc (Obj.cells l.toArray 24)).alloc (Obj.cells #[.bool false, .bool false, .bool false, .int .i64 0, .int .u64 0, .int .u64 0] 36)) (Obj.cells #[.bool true, .bool false, .bool false, .int .i64 0, .int .u64 0, .int .u64 0] 36) #[.bool false, .bool true, .bool false, .int .i64 0, .int .u64 0, .int .u64 0] 36
  have b0 := room_below w (Obj.cells l.toArray 24) (Obj.cells #[.bool false, .bool false, .bool false, .int .i64 0, .int .u64 0, .int .u64 0] 36)
  have b1 := b0.alloc b0.size (Obj.cells #[.bool true, .bool false, .bool false, .int .i64 0, .int .u64 0, .int .u64 0] 36)
  rw [size_alloc'] at h1 h2
  rw [size_alloc'] at h2
  exact ⟨(((blk_new w _ 24).alloc _).alloc _).alloc _, ((blk_new' w _ _ 36).alloc _).alloc _, h1.alloc _, h2, b1.alloc b1.size _⟩

set_option maxRecDepth 4000 in
set_option maxHeartbeats 800000 in
theorem refNorm_wrong (a o m v : Int) (w : World) (hr : rightB a o = false) :
    Calls Try.prog 17 #[.agg #[.int .i64 a, .int .i64 o, .int .u64 m, .int .u64 v]] w fun e w' => e = .returned never.val ∧ Below w.heap.size w w' := by
  have HR : Hid (∀ W : World, Calls Try.prog 11 #[.agg #[.int .i64 a, .int .i64 o, .int .u64 m, .int .u64 v]] W fun e w' => e = .returned (.bool false) ∧ Below W.heap.size W w') := fun W => hr ▸ refRight_any a o m v W
  have HK : Hid (Kf w [.int .i64 a, .int .i64 o, .int .u64 m, .int .u64 v] _) := kf_new w [.int .i64 a, .int .i64 o, .int .u64 m, .int .u64 v]
  clear hr
  go_enter Try.func17, Try.ntmps17
  go_wp2_with (first | (go_at_call 11; refine (HR.out _).mono ?_; rintro e w1 ⟨rfl, b1⟩; have K1 : Hid (Kf w [.int .i64 a, .int .i64 o, .int .u64 m, .int .u64 v] w1) := HK.out.over b1; clear b1) | (refine at_op (.load 36 (.tmp 4)) rfl ?_; refine wpList_load_row rfl 36 (.tmp 4) rfl (w.heap.size + 1 + 1 + 1) rfl 36 #[.bool false, .bool true, .bool false, .int .i64 0, .int .u64 0, .int .u64 0] (0, 0) _ K1.out.ne Try.underlying36 rfl Try.size36 ?_) | (refine at_op (.store 36 (.tmp 2) (.tmp 12)) rfl ?_; refine wpList_store_row rfl 36 (.tmp 2) (.tmp 12) rfl (w.heap.size + 1) never.cells.toArray rfl rfl 36 _ K1.out.r (no_size _) rfl (no_one _) ?_))
  refine bodyPost_ret (v := never.val) ?_ rfl ⟨rfl, ?_⟩
  · exact results_cell_row Try.results17 _ _ (w.heap.size + 1) 36 never.cells.toArray (0, 0) _ rfl (Blk.row K1.out.r _) Try.underlying36 rfl (no_size _)
  · exact below_setRow K1.out.bw (Nat.le_succ _) _

end Go.Proofs.Ytocebgkiaclekaa
