/-
  The small question that each law asks first comes out true, and turns nothing that was there.
-/
import Derived.Test.YtaipnnbpmpdnfaaValue
import Derived.Test.YtaipnnbpmpdnfaaOf
namespace Go.Proofs.Ytaipnnbpmpdnfaa
open Go.RowKit

theorem val_13 : valZ 4 13 = 327693 ∧ errZ 4 13 = 0 := by decide
theorem of_13 : ki 327693 = 4 ∧ ar 327693 = 13 := by decide

set_option maxHeartbeats 400000 in
theorem awake_any (w : World) :
    Calls Try.prog 9 #[] w fun e w' => e = .returned (.bool true) ∧ Below w.heap.size w w' := by
  have H1 : Hid (∀ W : World, Calls Try.prog 10 #[.agg #[.int .i64 4, .int .i64 13]] W fun e w' => e = .returned (.tuple #[.int .u32 327693, .int .i64 0]) ∧ Below W.heap.size W w') := by
    intro W
    have := value_any 4 13 W
    rw [val_13.1, val_13.2] at this
    exact this
  have H2 : Hid (∀ W : World, Calls Try.prog 14 #[.int .u32 327693] W fun e w' => e = .returned (.agg #[.int .i64 4, .int .i64 13]) ∧ Below W.heap.size W w') := by
    intro W
    have := of_any 327693 W (by unfold U32; decide)
    rw [of_13.1, of_13.2] at this
    exact this
  have hq : ∀ W : World, (Op.equalIn 10000 23 (.agg #[.int .i64 4, .int .i64 13]) (.agg #[.int .i64 4, .int .i64 13])).run Try.prog W = .ok true W := fun W => equalIn_act 4 13 4 13 W
  go_enter Try.func9, Try.ntmps9
  go_wp2_with (first | (go_at_call 10; refine (H1.out _).mono ?_; rintro e w1 ⟨rfl, b1⟩) | (go_at_call 14; refine (H2.out _).mono ?_; rintro e w2 ⟨rfl, b2⟩))
  go_ret
  exact ⟨rfl, b1.trans (b2.mono b1.size)⟩

end Go.Proofs.Ytaipnnbpmpdnfaa
