/-
  How an argument's bits of a mask stand to a number, by method expressions in a table: proved of every op that may be.
-/
import Derived.Test.YtimclfdecdappaaSAll
import Derived.Laws.EntriesVeiled
namespace Go.Proofs.Ytimclfdecdappaa
open Go.RowKit

theorem condR4_any (a o m v : Int) (w : World) :
    Calls Try.prog 38 #[.agg #[.int .i64 a, .int .i64 o, .int .u64 m, .int .u64 v]] w fun e w' => e = .returned (.bool (rightB a o)) ∧ Below w.heap.size w w' := by
  have HB : Hid (∀ o, Below w.heap.size w (w.alloc o)) := below_new w
  go_enter Try.func38, Try.ntmps38
  go_wp2
  all_goals (go_ret; exact ⟨ret_bool (by simp [rightB, *] <;> omega), HB.out _⟩)


theorem same_any (x v : Int) (w : World) : Calls Try.prog 75 #[.int .u64 x, .int .u64 v] w fun e w' => e = .returned (.bool (heldB 1 x v)) ∧ w' = w := by
  go_enter Try.func75, Try.ntmps75
  go_wp2
  go_ret
  exact ⟨ret_bool (by simp [heldB]), rfl⟩

theorem differs_any (x v : Int) (w : World) : Calls Try.prog 76 #[.int .u64 x, .int .u64 v] w fun e w' => e = .returned (.bool (heldB 2 x v)) ∧ w' = w := by
  go_enter Try.func76, Try.ntmps76
  go_wp2
  go_ret
  exact ⟨rfl, rfl⟩

theorem less_any (x v : Int) (w : World) : Calls Try.prog 77 #[.int .u64 x, .int .u64 v] w fun e w' => e = .returned (.bool (heldB 3 x v)) ∧ w' = w := by
  go_enter Try.func77, Try.ntmps77
  go_wp2
  go_ret
  exact ⟨ret_bool (by simp [heldB]), rfl⟩

theorem atMost_any (x v : Int) (w : World) : Calls Try.prog 78 #[.int .u64 x, .int .u64 v] w fun e w' => e = .returned (.bool (heldB 4 x v)) ∧ w' = w := by
  go_enter Try.func78, Try.ntmps78
  go_wp2
  go_ret
  exact ⟨ret_bool (by simp [heldB]), rfl⟩

theorem greater_any (x v : Int) (w : World) : Calls Try.prog 79 #[.int .u64 x, .int .u64 v] w fun e w' => e = .returned (.bool (heldB 5 x v)) ∧ w' = w := by
  go_enter Try.func79, Try.ntmps79
  go_wp2
  go_ret
  exact ⟨ret_bool (by simp [heldB]), rfl⟩

theorem atLeast_any (x v : Int) (w : World) : Calls Try.prog 80 #[.int .u64 x, .int .u64 v] w fun e w' => e = .returned (.bool (heldB 6 x v)) ∧ w' = w := by
  go_enter Try.func80, Try.ntmps80
  go_wp2
  go_ret
  exact ⟨ret_bool (by simp [heldB]), rfl⟩

theorem comparisons_any (w : World) :
    Calls Try.prog 54 #[] w fun e w' => e = .returned (.agg #[.nilFunc, .func (.func 75) #[] #[], .func (.func 76) #[] #[], .func (.func 77) #[] #[], .func (.func 78) #[] #[], .func (.func 79) #[] #[], .func (.func 80) #[] #[]]) ∧ Below w.heap.size w w' := by
  have HB : Hid (∀ o, Below w.heap.size w (w.alloc o)) := below_new w
  go_enter Try.func54, Try.ntmps54
  go_wp2
  refine bodyPost_ret (v := .agg #[.nilFunc, .func (.func 75) #[] #[], .func (.func 76) #[] #[], .func (.func 77) #[] #[], .func (.func 78) #[] #[], .func (.func 79) #[] #[], .func (.func 80) #[] #[]]) (by simp [results, Try.results54, go_sem]) rfl ⟨rfl, ?_⟩
  exact HB.out _

theorem held_any (o x m v : Int) (w : World) (h1 : 1 ≤ o) (h6 : o ≤ 6) :
    Calls Try.prog 39 #[.int .i64 o, .int .u64 x, .int .u64 m, .int .u64 v] w fun e w' => e = .returned (.bool (heldB o (an x m) v)) ∧ Below w.heap.size w w' := by
  have HC : Hid (∀ W : World, Calls Try.prog 54 #[] W fun e w' => e = .returned (.agg #[.nilFunc, .func (.func 75) #[] #[], .func (.func 76) #[] #[], .func (.func 77) #[] #[], .func (.func 78) #[] #[], .func (.func 79) #[] #[], .func (.func 80) #[] #[]]) ∧ Below W.heap.size W w') := comparisons_any
  have ea : bits BinOp.and IntKind.u64 x m = an x m := rfl
  have G1 : Hid (∀ W : World, Calls Try.prog 75 #[.int .u64 (an x m), .int .u64 v] W fun e w' => e = .returned (.bool (heldB 1 (an x m) v)) ∧ w' = W) := fun W => same_any _ _ W
  have G2 : Hid (∀ W : World, Calls Try.prog 76 #[.int .u64 (an x m), .int .u64 v] W fun e w' => e = .returned (.bool (heldB 2 (an x m) v)) ∧ w' = W) := fun W => differs_any _ _ W
  have G3 : Hid (∀ W : World, Calls Try.prog 77 #[.int .u64 (an x m), .int .u64 v] W fun e w' => e = .returned (.bool (heldB 3 (an x m) v)) ∧ w' = W) := fun W => less_any _ _ W
  have G4 : Hid (∀ W : World, Calls Try.prog 78 #[.int .u64 (an x m), .int .u64 v] W fun e w' => e = .returned (.bool (heldB 4 (an x m) v)) ∧ w' = W) := fun W => atMost_any _ _ W
  have G5 : Hid (∀ W : World, Calls Try.prog 79 #[.int .u64 (an x m), .int .u64 v] W fun e w' => e = .returned (.bool (heldB 5 (an x m) v)) ∧ w' = W) := fun W => greater_any _ _ W
  have G6 : Hid (∀ W : World, Calls Try.prog 80 #[.int .u64 (an x m), .int .u64 v] W fun e w' => e = .returned (.bool (heldB 6 (an x m) v)) ∧ w' = W) := fun W => atLeast_any _ _ W
  generalize an x m = y at *
  rcases six h1 h6 with rfl | rfl | rfl | rfl | rfl | rfl
  · clear h1 h6 G2 G3 G4 G5 G6
    have hi : ∀ W : World, (Instr.index 85 (.agg #[.nilFunc, .func (.func 75) #[] #[], .func (.func 76) #[] #[], .func (.func 77) #[] #[], .func (.func 78) #[] #[], .func (.func 79) #[] #[], .func (.func 80) #[] #[]]) (.int .i64 1)).run Try.prog W = .ok (.func (.func 75) #[] #[]) W := fun W => by kernel_rfl
    go_enter Try.func39, Try.ntmps39
    go_wp2_with (first | (go_at_call 54; refine (HC.out _).mono ?_; rintro e w1 ⟨rfl, b1⟩) | (go_at_call 75; refine (G1.out _).mono ?_; rintro e w2 ⟨rfl, rfl⟩))
    go_ret
    exact ⟨rfl, b1⟩
  · clear h1 h6 G1 G3 G4 G5 G6
    have hi : ∀ W : World, (Instr.index 85 (.agg #[.nilFunc, .func (.func 75) #[] #[], .func (.func 76) #[] #[], .func (.func 77) #[] #[], .func (.func 78) #[] #[], .func (.func 79) #[] #[], .func (.func 80) #[] #[]]) (.int .i64 2)).run Try.prog W = .ok (.func (.func 76) #[] #[]) W := fun W => by kernel_rfl
    go_enter Try.func39, Try.ntmps39
    go_wp2_with (first | (go_at_call 54; refine (HC.out _).mono ?_; rintro e w1 ⟨rfl, b1⟩) | (go_at_call 76; refine (G2.out _).mono ?_; rintro e w2 ⟨rfl, rfl⟩))
    go_ret
    exact ⟨rfl, b1⟩
  · clear h1 h6 G1 G2 G4 G5 G6
    have hi : ∀ W : World, (Instr.index 85 (.agg #[.nilFunc, .func (.func 75) #[] #[], .func (.func 76) #[] #[], .func (.func 77) #[] #[], .func (.func 78) #[] #[], .func (.func 79) #[] #[], .func (.func 80) #[] #[]]) (.int .i64 3)).run Try.prog W = .ok (.func (.func 77) #[] #[]) W := fun W => by kernel_rfl
    go_enter Try.func39, Try.ntmps39
    go_wp2_with (first | (go_at_call 54; refine (HC.out _).mono ?_; rintro e w1 ⟨rfl, b1⟩) | (go_at_call 77; refine (G3.out _).mono ?_; rintro e w2 ⟨rfl, rfl⟩))
    go_ret
    exact ⟨rfl, b1⟩
  · clear h1 h6 G1 G2 G3 G5 G6
    have hi : ∀ W : World, (Instr.index 85 (.agg #[.nilFunc, .func (.func 75) #[] #[], .func (.func 76) #[] #[], .func (.func 77) #[] #[], .func (.func 78) #[] #[], .func (.func 79) #[] #[], .func (.func 80) #[] #[]]) (.int .i64 4)).run Try.prog W = .ok (.func (.func 78) #[] #[]) W := fun W => by kernel_rfl
    go_enter Try.func39, Try.ntmps39
    go_wp2_with (first | (go_at_call 54; refine (HC.out _).mono ?_; rintro e w1 ⟨rfl, b1⟩) | (go_at_call 78; refine (G4.out _).mono ?_; rintro e w2 ⟨rfl, rfl⟩))
    go_ret
    exact ⟨rfl, b1⟩
  · clear h1 h6 G1 G2 G3 G4 G6
    have hi : ∀ W : World, (Instr.index 85 (.agg #[.nilFunc, .func (.func 75) #[] #[], .func (.func 76) #[] #[], .func (.func 77) #[] #[], .func (.func 78) #[] #[], .func (.func 79) #[] #[], .func (.func 80) #[] #[]]) (.int .i64 5)).run Try.prog W = .ok (.func (.func 79) #[] #[]) W := fun W => by kernel_rfl
    go_enter Try.func39, Try.ntmps39
    go_wp2_with (first | (go_at_call 54; refine (HC.out _).mono ?_; rintro e w1 ⟨rfl, b1⟩) | (go_at_call 79; refine (G5.out _).mono ?_; rintro e w2 ⟨rfl, rfl⟩))
    go_ret
    exact ⟨rfl, b1⟩
  · clear h1 h6 G1 G2 G3 G4 G5
    have hi : ∀ W : World, (Instr.index 85 (.agg #[.nilFunc, .func (.func 75) #[] #[], .func (.func 76) #[] #[], .func (.func 77) #[] #[], .func (.func 78) #[] #[], .func (.func 79) #[] #[], .func (.func 80) #[] #[]]) (.int .i64 6)).run Try.prog W = .ok (.func (.func 80) #[] #[]) W := fun W => by kernel_rfl
    go_enter Try.func39, Try.ntmps39
    go_wp2_with (first | (go_at_call 54; refine (HC.out _).mono ?_; rintro e w1 ⟨rfl, b1⟩) | (go_at_call 80; refine (G6.out _).mono ?_; rintro e w2 ⟨rfl, rfl⟩))
    go_ret
    exact ⟨rfl, b1⟩


end Go.Proofs.Ytimclfdecdappaa
