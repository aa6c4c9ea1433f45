/-
  The law ActValues, walked: true for every act.
-/
import Derived.Test.YtaipnnbpmpdnfaaAwake
import Derived.Test.YtaipnnbpmpdnfaaRefValue
namespace Go.Proofs.Ytaipnnbpmpdnfaa
open Go.RowKit

set_option maxHeartbeats 1000000 in
theorem actValues_walk (k a : Int) (w : World) :
    Calls Try.prog 3 #[.agg #[.int .i64 k, .int .i64 a]] w fun e w' => e = .returned (.bool true) ∧ Below w.heap.size w w' := by
  have HW : Hid (∀ W : World, Calls Try.prog 9 #[] W fun e w' => e = .returned (.bool true) ∧ Below W.heap.size W w') := awake_any
  have H1 : Hid (∀ W : World, Calls Try.prog 10 #[.agg #[.int .i64 k, .int .i64 a]] W fun e w' => e = .returned (.tuple #[.int .u32 (valZ k a), .int .i64 (errZ k a)]) ∧ Below W.heap.size W w') := value_any k a
  have H2 : Hid (∀ W : World, Calls Try.prog 11 #[.agg #[.int .i64 k, .int .i64 a]] W fun e w' => e = .returned (.tuple #[.int .u32 (valZ k a), .int .i64 (errZ k a)]) ∧ Below W.heap.size W w') := refValue_any k a
  have H3 : Hid (∀ W : World, Box w w.heap.size k a W → Calls Try.prog 12 #[.agg #[.int .i64 k, .int .i64 a]] W fun e w' => e = .returned (.bool (rightB k a)) ∧ Box w w.heap.size k a w') := fun W hS => (right_any k a W).mono fun e w' h => ⟨h.1, hS.over h.2⟩
  have H4 : Hid (∀ W : World, Box w w.heap.size k a W → Calls Try.prog 13 #[.agg #[.int .i64 k, .int .i64 a]] W fun e w' => e = .returned (.bool (rightB k a)) ∧ Box w w.heap.size k a w') := fun W hS => (refRight_any k a W).mono fun e w' h => ⟨h.1, hS.over h.2⟩
  have HB0 : Hid (Box w w.heap.size k a (w.alloc (Obj.cells #[.int .i64 k, .int .i64 a] 23))) := box_new w k a
  generalize valZ k a = v at *
  generalize errZ k a = er at *
  generalize rightB k a = p at *
  go_enter Try.func3, Try.ntmps3
  go_wp2_with (first | (go_at_call 9; refine (HW.out _).mono ?_; rintro e w1 ⟨rfl, b1⟩; have B1 : Hid (Box w w.heap.size k a w1) := HB0.out.over b1; have q0 := B1.out.1; have q1 := B1.out.2.1) | (go_at_call 10; refine (H1.out _).mono ?_; rintro e w2 ⟨rfl, b2⟩; have B2 : Hid (Box w w.heap.size k a w2) := B1.out.over b2; have r0 := B2.out.1; have r1 := B2.out.2.1) | (go_at_call 11; refine (H2.out _).mono ?_; rintro e w3 ⟨rfl, b3⟩; have B3 : Hid (Box w w.heap.size k a w3) := B2.out.over b3))
  clear q0 q1 r0 r1 b1 b2 b3
  have hS0 := B3.out.drew
  have HBB : Hid (∀ X, (X.cell? ⟨w.heap.size, 0, none⟩ = some (.int .i64 k) ∧ X.cell? ⟨w.heap.size, 1, none⟩ = some (.int .i64 a) ∧ w.heap.size < X.heap.size ∧ Below w.heap.size w X) → Below w.heap.size w X) := fun X h => h.2.2.2
  unfold Box at hS0 H3 H4
  go_region_held3 (fun X => X.cell? ⟨w.heap.size, 0, none⟩ = some (.int .i64 k) ∧ X.cell? ⟨w.heap.size, 1, none⟩ = some (.int .i64 a) ∧ w.heap.size < X.heap.size ∧ Below w.heap.size w X) (first | assumption | go_keep) (first | (go_at_call 12; refine (H3.out _ (by assumption)).mono ?_; rintro e w5 ⟨rfl, hS5⟩) | (go_at_call 13; refine (H4.out _ (by assumption)).mono ?_; rintro e w6 ⟨rfl, hS6⟩))
  all_goals
    go_wp2
    go_ret
    exact ⟨by simp, HBB.out _ (by assumption)⟩

end Go.Proofs.Ytaipnnbpmpdnfaa
