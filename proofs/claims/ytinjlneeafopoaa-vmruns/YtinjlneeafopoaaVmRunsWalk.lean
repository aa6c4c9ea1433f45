/-
  The law VmRuns, walked: true for every program and call.
-/
import Derived.Test.YtinjlneeafopoaaSRun
import Derived.Test.YtinjlneeafopoaaAwake
namespace Go.Proofs.Ytinjlneeafopoaa
open Go.RowKit

set_option maxHeartbeats 2000000 in
theorem vmRuns_walk (a : Option Addr) (len cap : Nat) (ins : List In) (d : Da) (w : World) (hlen : len ≤ maxLen) (h : Ins w a len ins) (hd : d.ok) :
    Calls Try.prog 3 #[.slice a len cap, d.val] w fun e w' => e = .returned (.bool true) ∧ Below w.heap.size w w' := by
  have HW : Hid (∀ W : World, Calls Try.prog 9 #[] W fun e w' => e = .returned (.bool true) ∧ Below W.heap.size W w') := awake_any
  have H1 : Hid (∀ X, Below w.heap.size w X → Calls Try.prog 10 #[.slice a len cap, .agg d.cells.toArray] X fun e w' => RunTold X w' e ins d) := fun X hX => run_any a len cap ins d X hlen (h.below hX) hd
  have H2 : Hid (∀ X, Below w.heap.size w X → Calls Try.prog 11 #[.slice a len cap, .agg d.cells.toArray] X fun e w' => RunTold X w' e ins d) := fun X hX => refRun_any a len cap ins d X hlen (h.below hX) hd
  have HSD : Hid ((Try.prog.info? 27).map (·.size) = some d.cells.toArray.size) := by unfold Hid; rw [Try.size27]; simp [d.cells_len hd]
  have HB : Hid (Blk (w.alloc (Obj.cells d.cells.toArray 27)) w.heap.size 27 d.cells) := blk_new w _ 27
  unfold RunTold at H1 H2
  unfold Da.val
  clear h hd hlen
  generalize ansV ins d = an at *
  generalize plV ins d = pl at *
  generalize errV ins = er at *
  go_enter Try.func3, Try.ntmps3
  go_wp2_with (first | (go_at_call 9; refine (HW.out _).mono ?_; rintro e w1 ⟨rfl, b1⟩; have B1 : Hid (Below w.heap.size w w1) := (below_new w _).trans (b1.mono (below_new w _).size); have D1 : Hid (Blk w1 w.heap.size 27 d.cells) := HB.out.over b1) | (refine at_op (.load 27 (.tmp 3)) rfl ?_; first | (refine wpList_load_row rfl 27 (.tmp 3) rfl w.heap.size rfl 27 d.cells.toArray (0, 0) _ D2.out Try.underlying27 rfl HSD.out ?_) | (refine wpList_load_row rfl 27 (.tmp 3) rfl w.heap.size rfl 27 d.cells.toArray (0, 0) _ D1.out Try.underlying27 rfl HSD.out ?_)) | (go_at_call 10; refine (H1.out _ B1.out).mono ?_; rintro e w2 ⟨rfl, b2⟩; have B2 : Hid (Below w.heap.size w w2) := B1.out.trans (b2.mono B1.out.size); have D2 : Hid (Blk w2 w.heap.size 27 d.cells) := D1.out.over b2) | (go_at_call 11; refine (H2.out _ B2.out).mono ?_; rintro e w3 ⟨rfl, b3⟩; have B3 : Hid (Below w.heap.size w w3) := B2.out.trans (b3.mono B2.out.size)))
  go_ret
  exact ⟨rfl, B3.out⟩

end Go.Proofs.Ytinjlneeafopoaa
