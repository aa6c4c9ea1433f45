/-
  A call's bytes, and the word of a call at a place, by package data, proved of every call.
-/
import Derived.Test.YtinjlneeafopoaaDSplit
namespace Go.Proofs.Ytinjlneeafopoaa
open Go.RowKit

theorem valW_get (ws : List Int) (k : Nat) (hk : k < ws.length) : (cellsW ws).toArray[k]? = some (.int .u32 (ws.getD k 0)) := by
  rw [List.getElem?_toArray]
  exact cellsW_get ws k hk

end Go.Proofs.Ytinjlneeafopoaa
