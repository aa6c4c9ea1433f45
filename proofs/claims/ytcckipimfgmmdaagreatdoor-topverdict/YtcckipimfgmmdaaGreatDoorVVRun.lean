/-
  Run and Trace, by package vm: proved of every program and call.
-/
import Derived.Test.YtcckipimfgmmdaaGreatDoorVVGo
namespace Go.Proofs.YtcckipimfgmmdaaGreatDoor.V
open Go.RowKit

/-- what Run tells. -/
def RunTold (w w' : World) (e : Ending) (ins : List In) (d : Da) : Prop :=
  e = .returned (.tuple #[.int .u32 (ansV ins d), .int .i64 ((plV ins d).length : Nat), .int .i64 (errV ins)]) ∧ Below w.heap.size w w'

/-- what Trace tells. -/
def TraceTold (w w' : World) (e : Ending) (ins : List In) (d : Da) : Prop :=
  Below w.heap.size w w' ∧ ∃ v, e = .returned (.tuple #[v, .int .i64 (errV ins)]) ∧ w'.ownsRow w.heap.size 3 1 v (plV ins d).length (cellsN (plV ins d))

set_option maxHeartbeats 400000 in
theorem run_any (a : Option Addr) (len cap : Nat) (ins : List In) (d : Da) (w : World) (hlen : len ≤ maxLen) (h : Ins w a len ins) (hd : d.ok) :
    Calls Tryz.prog 20 #[.slice a len cap, d.val] w fun e w' => RunTold w w' e ins d := by
  have HG : Hid (∀ X, Below w.heap.size w X → Calls Tryz.prog 39 #[.slice a len cap, .agg d.cells.toArray] X fun e w' => GoTold X w' e ins d) := fun X hX => go_any a len cap ins d X hlen (h.below hX) hd
  have HC : Hid ((Tryz.prog.info? 27).map (·.size) = some d.cells.toArray.size) := by unfold Hid; rw [Tryz.size27]; simp [d.cells_len hd]
  have hB : Hid (Blk (w.alloc (Obj.cells d.cells.toArray 27)) w.heap.size 27 d.cells.toArray.toList) := blk_new w _ 27
  unfold Da.val RunTold
  unfold GoTold at HG
  clear h hd hlen
  generalize d.cells.toArray = A at *
  generalize ansV ins d = an at *
  generalize plV ins d = pl at *
  generalize errV ins = er at *
  go_enter Tryz.func20, Tryz.ntmps20
  go_wp2_with (first | (refine wpList_load_row rfl 27 (.tmp 3) rfl w.heap.size rfl 27 A (0, 0) _ hB.out Tryz.underlying27 rfl HC.out ?_) | (go_at_call 39; refine (HG.out _ (below_new _ _)).mono ?_; rintro e w2 ⟨b2, v2, rfl, o2⟩; obtain ⟨a2, c2, rfl, -⟩ := owns_ns o2))
  go_ret3
  exact ⟨rfl, (below_new w _).trans (b2.mono (below_new w _).size)⟩

end Go.Proofs.YtcckipimfgmmdaaGreatDoor.V
