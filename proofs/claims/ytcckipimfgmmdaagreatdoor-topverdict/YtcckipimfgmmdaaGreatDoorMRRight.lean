/-
  What may be shown, by the document: acts, words, conditions, rules.
-/
import Derived.Test.YtcckipimfgmmdaaGreatDoorMCRef
namespace Go.Proofs.YtcckipimfgmmdaaGreatDoor.M
open Go.RowKit

theorem actB_zero {k : Int} (h1 : ¬ k < 1) (h2 : ¬ 8 < k) : actB k 0 = true := by
  rw [actB_mk (by omega) (by omega)]
  split <;> decide
theorem actB_has {k a : Int} (h1 : ¬ k < 1) (h2 : ¬ 8 < k) (h3 : hasN k = true) : actB k a = (decide (0 ≤ a) && decide (a ≤ 65535)) := by
  rw [actB_mk (by omega) (by omega), if_pos h3]
theorem actB_hasnt {k a : Int} (h1 : ¬ k < 1) (h2 : ¬ 8 < k) (h3 : hasN k = false) (h4 : ¬ a = 0) : actB k a = false := by
  rw [actB_mk (by omega) (by omega), if_neg (by rw [h3]; decide)]
  simpa using h4

end Go.Proofs.YtcckipimfgmmdaaGreatDoor.M
