/-
  Whether a condition holds of a call, by the document: proved of every condition and call.
-/
import Derived.Test.YtcckipimfgmmdaaGreatDoorMCHolds
namespace Go.Proofs.YtcckipimfgmmdaaGreatDoor.M
open Go.RowKit

end Go.Proofs.YtcckipimfgmmdaaGreatDoor.M
