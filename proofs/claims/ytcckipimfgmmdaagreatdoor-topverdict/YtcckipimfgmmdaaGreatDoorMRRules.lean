/-
  Rules that may be shown, by the document.
-/
import Derived.Test.YtcckipimfgmmdaaGreatDoorMRRight
namespace Go.Proofs.YtcckipimfgmmdaaGreatDoor.M
open Go.RowKit

/-- rules that are small enough to be walked through. -/
def Sml (l : List Xr) : Prop := l.length ≤ 1000 ∧ ∀ x ∈ l, x.r.names.length ≤ 9000000 ∧ x.r.conds.length ≤ 9000000 ∧ ∀ s ∈ x.r.names, s.size ≤ 1000000

theorem ruleB_parts {x : Xl} (h1 : ¬ x.names.length < 1) (h2 : ¬ 16 < x.names.length) (h3 : ¬ 8 < x.conds.length) (h4 : actB x.k x.a = true) : ruleB x = (x.names.all (fun s => isWd (lst s)) && x.conds.all condB) := by
  rw [ruleB_mk (by omega) (by omega) (by omega), h4, Bool.true_and]
theorem ruleB_act {x : Xl} (h4 : actB x.k x.a = false) : ruleB x = false := by
  unfold ruleB
  rw [h4]
  simp

end Go.Proofs.YtcckipimfgmmdaaGreatDoor.M
