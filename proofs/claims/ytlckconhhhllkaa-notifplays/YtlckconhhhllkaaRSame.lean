/-
  Two rows of IDs that are the same.
-/
import Derived.Test.YtlckconhhhllkaaBase
import Derived.BigQuiet
namespace Go.Proofs.Ytlckconhhhllkaa
open Go.RowKit

set_option maxHeartbeats 2000000 in
/-- two rows that are the same. -/
theorem rsame_any (w : World) (b1 b2 : Nat) (v1 v2 : Value) (ts : List Int) (h1 : w.ownsRow b1 23 1 v1 ts.length (cellsU ts)) (h2 : w.ownsRow b2 23 1 v2 ts.length (cellsU ts)) (hn : ts.length ≤ 1000) :
    Calls Try.prog 28 #[v1, v2] w fun e w' => e = .returned (.bool true) ∧ Below w.heap.size w w' := by
  obtain ⟨p1, c1, rfl⟩ := rowU_slice h1
  obtain ⟨p2, c2, rfl⟩ := rowU_slice h2
  have HF : Hid (w.ownsRow b1 23 1 (.slice p1 ts.length c1) ts.length (cellsU ts) ∧ w.ownsRow b2 23 1 (.slice p2 ts.length c2) ts.length (cellsU ts)) := ⟨h1, h2⟩
  clear h1 h2
  go_enter Try.func28, Try.ntmps28
  go_wp2_with fail
  go_loopw [5] (fun vi wr => ∃ i : Nat, vi = .int .i64 i ∧ i ≤ ts.length ∧ Below w.heap.size w wr) (fun vi _ => ts.length - (intOf vi).toNat)
  case atStart => exact ⟨0, rfl, Nat.zero_le _, Below.refl _ _⟩
  case round =>
    obtain ⟨i, rfl, hi, hb⟩ := hrel
    have HB : Hid (Below w.heap.size w wr) := hb
    by_cases hlt : i < ts.length
    · have hi1 : (i : Int) < (ts.length : Int) := by omega
      obtain ⟨g1, rfl, _, x1⟩ := rowU_at (owns_below HF.out.1 hb (Nat.le_refl _)) hlt
      obtain ⟨g2, rfl, _, x2⟩ := rowU_at (owns_below HF.out.2 hb (Nat.le_refl _)) hlt
      have HBD : Hid (∀ m, Below w.heap.size w (wr.drewN m)) := fun m => hb.trans ((below_drewN wr m).mono hb.size)
      clear hb
      generalize ts[i] = y at *
      go_wp2_with fail
      go_quiet (fail)
      go_wp2_with fail
      go_roundw
      case rel => exact ⟨i + 1, by go_num, hlt, HBD.out _⟩
      case measure => simp [intOf]; omega
    · have hi1 : ¬ (i : Int) < (ts.length : Int) := by omega
      clear hb
      go_wp2_with fail
      go_ret
      exact ⟨rfl, HB.out⟩

end Go.Proofs.Ytlckconhhhllkaa
