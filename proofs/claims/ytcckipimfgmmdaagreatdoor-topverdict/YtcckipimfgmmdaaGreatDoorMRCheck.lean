/-
  Why rules mean nothing, by the document.
-/
import Derived.Test.YtcckipimfgmmdaaGreatDoorMRRules
import Derived.Test.YtcckipimfgmmdaaGreatDoorMRNrs
import Derived.Test.YtcckipimfgmmdaaGreatDoorMWrong
import Derived.BigQuiet
namespace Go.Proofs.YtcckipimfgmmdaaGreatDoor.M
open Go.RowKit

theorem wrongN_unk {l : List ByteArray} {i : Nat} (h : i < l.length) (hk : knB l[i] = false) : wrongN l = 8 := by
  unfold wrongN
  rw [if_pos]
  rw [List.any_eq_true]
  exact ⟨l[i], List.getElem_mem h, by rw [hk]; rfl⟩
theorem wrongN_twice {l : List ByteArray} {i : Nat} (hu : (l.any fun s => !knB s) = false) (h : i < l.length) (ht : twAt l i = true) : wrongN l = 9 := by
  unfold wrongN
  rw [hu, if_neg (by decide), if_pos (twB_hit h ht)]
theorem wrongN_ok {l : List ByteArray} (hu : (l.any fun s => !knB s) = false) (h : ∀ i, i < l.length → twAt l i = false) : wrongN l = 0 := by
  unfold wrongN
  rw [hu, if_neg (by decide), twB_none h, if_neg (by decide)]

end Go.Proofs.YtcckipimfgmmdaaGreatDoor.M
