/-
  Where any instruction of any program goes on, by package check: proved.
-/
import Derived.Test.YtcckipimfgmmdaaGreatDoorVNextMath
import Derived.Test.YtcckipimfgmmdaaGreatDoorVFirst
namespace Go.Proofs.YtcckipimfgmmdaaGreatDoor.V
open Go.RowKit

/-- a list of places that was told, as memory of its own. -/
def NextTold (w w' : World) (e : Ending) (l : List Int) : Prop := Below w.heap.size w w' ∧ ∃ v, e = .returned v ∧ w'.ownsRow w.heap.size 3 1 v l.length (cellsN l)

theorem new_int (w : World) (z : Int) : (w.alloc (.cells #[.int .i64 z] 3)).cell? ⟨w.heap.size, 0, none⟩ = some (.int .i64 z) := by simp

end Go.Proofs.YtcckipimfgmmdaaGreatDoor.V
