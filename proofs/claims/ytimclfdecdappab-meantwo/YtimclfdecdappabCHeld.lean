/-
  How an argument's bits of a mask stand to a number, by method expressions in a table: proved of every op that may be.
-/
import Derived.Test.YtimclfdecdappabSAll
import Derived.Laws.EntriesVeiled
namespace Go.Proofs.Ytimclfdecdappab
open Go.RowKit

theorem condR4_any (a o m v : Int) (w : World) :
    Calls Try.prog 26 #[.agg #[.int .i64 a, .int .i64 o, .int .u64 m, .int .u64 v]] w fun e w' => e = .returned (.bool (rightB a o)) ∧ Below w.heap.size w w' := by
  have HB : Hid (∀ o, Below w.heap.size w (w.alloc o)) := below_new w
  go_enter Try.func26, Try.ntmps26
  go_wp2
  all_goals (go_ret; exact ⟨ret_bool (by simp [rightB, *] <;> omega), HB.out _⟩)


theorem same_any (x v : Int) (w : World) : Calls Try.prog 35 #[.int .u64 x, .int .u64 v] w fun e w' => e = .returned (.bool (heldB 1 x v)) ∧ w' = w := by
  go_enter Try.func35, Try.ntmps35
  go_wp2
  go_ret
  exact ⟨ret_bool (by simp [heldB]), rfl⟩

theorem differs_any (x v : Int) (w : World) : Calls Try.prog 36 #[.int .u64 x, .int .u64 v] w fun e w' => e = .returned (.bool (heldB 2 x v)) ∧ w' = w := by
  go_enter Try.func36, Try.ntmps36
  go_wp2
  go_ret
  exact ⟨rfl, rfl⟩

theorem less_any (x v : Int) (w : World) : Calls Try.prog 37 #[.int .u64 x, .int .u64 v] w fun e w' => e = .returned (.bool (heldB 3 x v)) ∧ w' = w := by
  go_enter Try.func37, Try.ntmps37
  go_wp2
  go_ret
  exact ⟨ret_bool (by simp [heldB]), rfl⟩

theorem atMost_any (x v : Int) (w : World) : Calls Try.prog 38 #[.int .u64 x, .int .u64 v] w fun e w' => e = .returned (.bool (heldB 4 x v)) ∧ w' = w := by
  go_enter Try.func38, Try.ntmps38
  go_wp2
  go_ret
  exact ⟨ret_bool (by simp [heldB]), rfl⟩

theorem greater_any (x v : Int) (w : World) : Calls Try.prog 39 #[.int .u64 x, .int .u64 v] w fun e w' => e = .returned (.bool (heldB 5 x v)) ∧ w' = w := by
  go_enter Try.func39, Try.ntmps39
  go_wp2
  go_ret
  exact ⟨ret_bool (by simp [heldB]), rfl⟩

theorem atLeast_any (x v : Int) (w : World) : Calls Try.prog 40 #[.int .u64 x, .int .u64 v] w fun e w' => e = .returned (.bool (heldB 6 x v)) ∧ w' = w := by
  go_enter Try.func40, Try.ntmps40
  go_wp2
  go_ret
  exact ⟨ret_bool (by simp [heldB]), rfl⟩

theorem comparisons_any (w : World) :
    Calls Try.prog 33 #[] w fun e w' => e = .returned (.agg #[.nilFunc, .func (.func 35) #[] #[], .func (.func 36) #[] #[], .func (.func 37) #[] #[], .func (.func 38) #[] #[], .func (.func 39) #[] #[], .func (.func 40) #[] #[]]) ∧ Below w.heap.size w w' := by
  have HB : Hid (∀ o, Below w.heap.size w (w.alloc o)) := below_new w
  go_enter Try.func33, Try.ntmps33
  go_wp2
  refine bodyPost_ret (v := .agg #[.nilFunc, .func (.func 35) #[] #[], .func (.func 36) #[] #[], .func (.func 37) #[] #[], .func (.func 38) #[] #[], .func (.func 39) #[] #[], .func (.func 40) #[] #[]]) (by simp [results, Try.results33, go_sem]) rfl ⟨rfl, ?_⟩
  exact HB.out _

theorem held_any (o x m v : Int) (w : World) (h1 : 1 ≤ o) (h6 : o ≤ 6) :
    Calls Try.prog 29 #[.int .i64 o, .int .u64 x, .int .u64 m, .int .u64 v] w fun e w' => e = .returned (.bool (heldB o (an x m) v)) ∧ Below w.heap.size w w' := by
  have HC : Hid (∀ W : World, Calls Try.prog 33 #[] W fun e w' => e = .returned (.agg #[.nilFunc, .func (.func 35) #[] #[], .func (.func 36) #[] #[], .func (.func 37) #[] #[], .func (.func 38) #[] #[], .func (.func 39) #[] #[], .func (.func 40) #[] #[]]) ∧ Below W.heap.size W w') := comparisons_any
  have ea : bits BinOp.and IntKind.u64 x m = an x m := rfl
  have G1 : Hid (∀ W : World, Calls Try.prog 35 #[.int .u64 (an x m), .int .u64 v] W fun e w' => e = .returned (.bool (heldB 1 (an x m) v)) ∧ w' = W) := fun W => same_any _ _ W
  have G2 : Hid (∀ W : World, Calls Try.prog 36 #[.int .u64 (an x m), .int .u64 v] W fun e w' => e = .returned (.bool (heldB 2 (an x m) v)) ∧ w' = W) := fun W => differs_any _ _ W
  have G3 : Hid (∀ W : World, Calls Try.prog 37 #[.int .u64 (an x m), .int .u64 v] W fun e w' => e = .returned (.bool (heldB 3 (an x m) v)) ∧ w' = W) := fun W => less_any _ _ W
  have G4 : Hid (∀ W : World, Calls Try.prog 38 #[.int .u64 (an x m), .int .u64 v] W fun e w' => e = .returned (.bool (heldB 4 (an x m) v)) ∧ w' = W) := fun W => atMost_any _ _ W
  have G5 : Hid (∀ W : World, Calls Try.prog 39 #[.int .u64 (an x m), .int .u64 v] W fun e w' => e = .returned (.bool (heldB 5 (an x m) v)) ∧ w' = W) := fun W => greater_any _ _ W
  have G6 : Hid (∀ W : World, Calls Try.prog 40 #[.int .u64 (an x m), .int .u64 v] W fun e w' => e = .returned (.bool (heldB 6 (an x m) v)) ∧ w' = W) := fun W => atLeast_any _ _ W
  generalize an x m = y at *
  rcases six h1 h6 with rfl | rfl | rfl | rfl | rfl | rfl
  · clear h1 h6 G2 G3 G4 G5 G6
    have hi : ∀ W : World, (Instr.index 74 (.agg #[.nilFunc, .func (.func 35) #[] #[], .func (.func 36) #[] #[], .func (.func 37) #[] #[], .func (.func 38) #[] #[], .func (.func 39) #[] #[], .func (.func 40) #[] #[]]) (.int .i64 1)).run Try.prog W = .ok (.func (.func 35) #[] #[]) W := fun W => by kernel_rfl
    go_enter Try.func29, Try.ntmps29
    go_wp2_with (first | (go_at_call 33; refine (HC.out _).mono ?_; rintro e w1 ⟨rfl, b1⟩) | (go_at_call 35; refine (G1.out _).mono ?_; rintro e w2 ⟨rfl, rfl⟩))
    go_ret
    exact ⟨rfl, b1⟩
  · clear h1 h6 G1 G3 G4 G5 G6
    have hi : ∀ W : World, (Instr.index 74 (.agg #[.nilFunc, .func (.func 35) #[] #[], .func (.func 36) #[] #[], .func (.func 37) #[] #[], .func (.func 38) #[] #[], .func (.func 39) #[] #[], .func (.func 40) #[] #[]]) (.int .i64 2)).run Try.prog W = .ok (.func (.func 36) #[] #[]) W := fun W => by kernel_rfl
    go_enter Try.func29, Try.ntmps29
    go_wp2_with (first | (go_at_call 33; refine (HC.out _).mono ?_; rintro e w1 ⟨rfl, b1⟩) | (go_at_call 36; refine (G2.out _).mono ?_; rintro e w2 ⟨rfl, rfl⟩))
    go_ret
    exact ⟨rfl, b1⟩
  · clear h1 h6 G1 G2 G4 G5 G6
    have hi : ∀ W : World, (Instr.index 74 (.agg #[.nilFunc, .func (.func 35) #[] #[], .func (.func 36) #[] #[], .func (.func 37) #[] #[], .func (.func 38) #[] #[], .func (.func 39) #[] #[], .func (.func 40) #[] #[]]) (.int .i64 3)).run Try.prog W = .ok (.func (.func 37) #[] #[]) W := fun W => by kernel_rfl
    go_enter Try.func29, Try.ntmps29
    go_wp2_with (first | (go_at_call 33; refine (HC.out _).mono ?_; rintro e w1 ⟨rfl, b1⟩) | (go_at_call 37; refine (G3.out _).mono ?_; rintro e w2 ⟨rfl, rfl⟩))
    go_ret
    exact ⟨rfl, b1⟩
  · clear h1 h6 G1 G2 G3 G5 G6
    have hi : ∀ W : World, (Instr.index 74 (.agg #[.nilFunc, .func (.func 35) #[] #[], .func (.func 36) #[] #[], .func (.func 37) #[] #[], .func (.func 38) #[] #[], .func (.func 39) #[] #[], .func (.func 40) #[] #[]]) (.int .i64 4)).run Try.prog W = .ok (.func (.func 38) #[] #[]) W := fun W => by kernel_rfl
    go_enter Try.func29, Try.ntmps29
    go_wp2_with (first | (go_at_call 33; refine (HC.out _).mono ?_; rintro e w1 ⟨rfl, b1⟩) | (go_at_call 38; refine (G4.out _).mono ?_; rintro e w2 ⟨rfl, rfl⟩))
    go_ret
    exact ⟨rfl, b1⟩
  · clear h1 h6 G1 G2 G3 G4 G6
    have hi : ∀ W : World, (Instr.index 74 (.agg #[.nilFunc, .func (.func 35) #[] #[], .func (.func 36) #[] #[], .func (.func 37) #[] #[], .func (.func 38) #[] #[], .func (.func 39) #[] #[], .func (.func 40) #[] #[]]) (.int .i64 5)).run Try.prog W = .ok (.func (.func 39) #[] #[]) W := fun W => by kernel_rfl
    go_enter Try.func29, Try.ntmps29
    go_wp2_with (first | (go_at_call 33; refine (HC.out _).mono ?_; rintro e w1 ⟨rfl, b1⟩) | (go_at_call 39; refine (G5.out _).mono ?_; rintro e w2 ⟨rfl, rfl⟩))
    go_ret
    exact ⟨rfl, b1⟩
  · clear h1 h6 G1 G2 G3 G4 G5
    have hi : ∀ W : World, (Instr.index 74 (.agg #[.nilFunc, .func (.func 35) #[] #[], .func (.func 36) #[] #[], .func (.func 37) #[] #[], .func (.func 38) #[] #[], .func (.func 39) #[] #[], .func (.func 40) #[] #[]]) (.int .i64 6)).run Try.prog W = .ok (.func (.func 40) #[] #[]) W := fun W => by kernel_rfl
    go_enter Try.func29, Try.ntmps29
    go_wp2_with (first | (go_at_call 33; refine (HC.out _).mono ?_; rintro e w1 ⟨rfl, b1⟩) | (go_at_call 40; refine (G6.out _).mono ?_; rintro e w2 ⟨rfl, rfl⟩))
    go_ret
    exact ⟨rfl, b1⟩


end Go.Proofs.Ytimclfdecdappab
