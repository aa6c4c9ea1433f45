/-
  The law ActOf, walked: true for every number.
-/
import Derived.Test.YtaipnnbpmpdnfaaAwake
import Derived.Test.YtaipnnbpmpdnfaaRefOf
namespace Go.Proofs.Ytaipnnbpmpdnfaa
open Go.RowKit

set_option maxHeartbeats 400000 in
theorem actOf_walk (v : Int) (w : World) (hv : U32 v) :
    Calls Try.prog 4 #[.int .u32 v] w fun e w' => e = .returned (.bool true) ∧ Below w.heap.size w w' := by
  have HW : Hid (∀ W : World, Calls Try.prog 9 #[] W fun e w' => e = .returned (.bool true) ∧ Below W.heap.size W w') := awake_any
  have H1 : Hid (∀ W : World, Calls Try.prog 14 #[.int .u32 v] W fun e w' => e = .returned (.agg #[.int .i64 (ki v), .int .i64 (ar v)]) ∧ Below W.heap.size W w') := fun W => of_any v W hv
  have H2 : Hid (∀ W : World, Calls Try.prog 15 #[.int .u32 v] W fun e w' => e = .returned (.agg #[.int .i64 (ki v), .int .i64 (ar v)]) ∧ Below W.heap.size W w') := fun W => refOf_any v W hv
  have hq : ∀ W : World, (Op.equalIn 10000 23 (.agg #[.int .i64 (ki v), .int .i64 (ar v)]) (.agg #[.int .i64 (ki v), .int .i64 (ar v)])).run Try.prog W = .ok true W := fun W => by rw [equalIn_act, sameA_self]
  clear hv
  generalize ki v = k at *
  generalize ar v = a at *
  go_enter Try.func4, Try.ntmps4
  go_wp2_with (first | (go_at_call 9; refine (HW.out _).mono ?_; rintro e w1 ⟨rfl, b1⟩) | (go_at_call 14; refine (H1.out _).mono ?_; rintro e w2 ⟨rfl, b2⟩) | (go_at_call 15; refine (H2.out _).mono ?_; rintro e w3 ⟨rfl, b3⟩))
  go_ret
  have c1 := b1.trans (b2.mono b1.size)
  exact ⟨rfl, c1.trans (b3.mono c1.size)⟩

end Go.Proofs.Ytaipnnbpmpdnfaa
