/-
  The law DataLoads, walked: true for every call and every place.
-/
import Derived.Test.YtkfpcdnkpafphaaAwake
import Derived.Test.YtkfpcdnkpafphaaRefLoad
namespace Go.Proofs.Ytkfpcdnkpafphaa
open Go.RowKit

theorem cells_size (d : Da) (hd : d.ok) : (Try.prog.info? 26).map (·.size) = some d.cells.toArray.size := by rw [Try.size26]; simp [d.cells_len hd]

set_option maxHeartbeats 400000 in
theorem dataLoads_walk (d : Da) (m : Int) (w : World) (hd : d.ok) (hm : U32 m) :
    Calls Try.prog 4 #[d.val, .int .u32 m] w fun e w' => e = .returned (.bool true) ∧ Below w.heap.size w w' := by
  have HC : Hid ((Try.prog.info? 26).map (·.size) = some d.cells.toArray.size) := cells_size d hd
  have HX : Hid (∀ W : World, Calls Try.prog 14 #[.agg d.cells.toArray, .int .u32 m] W fun e w' => e = .returned (.tuple #[.int .u32 (ldv d m), .int .i64 (lde m)]) ∧ Below W.heap.size W w') := fun W => load_any d m W hd hm
  have HY : Hid (∀ W : World, Calls Try.prog 15 #[.agg d.cells.toArray, .int .u32 m] W fun e w' => e = .returned (.tuple #[.int .u32 (ldv d m), .int .i64 (lde m)]) ∧ Below W.heap.size W w') := fun W => refLoad_any d m W hd hm
  have z1 : Blk (w.alloc (Obj.cells d.cells.toArray 26)) w.heap.size 26 d.cells := blk_new w _ 26
  have z5 : Below w.heap.size w (w.alloc (Obj.cells d.cells.toArray 26)) := (Below.refl _ _).alloc (Nat.le_refl _) _
  unfold Da.val
  generalize d.cells = A at *
  generalize ldv d m = x at *
  generalize lde m = e0 at *
  clear hd hm
  go_enter Try.func4, Try.ntmps4
  go_wp2_with fail
  generalize w.alloc (Obj.cells A.toArray 26) = W0 at *
  refine (awake_any _).mono ?_
  rintro e X ⟨rfl, hX⟩
  have y1 : Hid (Blk X w.heap.size 26 A) := z1.over hX
  have y5 := z5.trans (hX.mono z5.size)
  clear z1 z5 hX
  go_wp2_with (first | (refine wpList_load_row rfl 26 (.tmp 2) rfl w.heap.size rfl 26 A.toArray (0, 0) _ y1.out Try.underlying26 rfl HC.out ?_) | (go_at_call 14; refine (HX.out _).mono ?_; rintro e Y ⟨rfl, hY⟩; have y2 : Hid (Blk Y w.heap.size 26 A) := y1.out.over hY; have y6 := y5.trans (hY.mono y5.size); clear y1) | (refine wpList_load_row rfl 26 (.tmp 2) rfl w.heap.size rfl 26 A.toArray (0, 0) _ y2.out Try.underlying26 rfl HC.out ?_) | (go_at_call 15; refine (HY.out _).mono ?_; rintro e Z ⟨rfl, hZ⟩))
  go_ret
  exact ⟨rfl, y6.trans (hZ.mono y6.size)⟩

end Go.Proofs.Ytkfpcdnkpafphaa
