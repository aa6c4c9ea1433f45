/-
  Whether conditions may be, how numbers stand to each other, which op is another one's opposite, and the forms Always and Never: proved.
-/
import Derived.Test.YtocebgkiaclekaaMem
namespace Go.Proofs.Ytocebgkiaclekaa
open Go.RowKit

theorem right_any (a o m v : Int) (w : World) :
    Calls Try.prog 10 #[.agg #[.int .i64 a, .int .i64 o, .int .u64 m, .int .u64 v]] w fun e w' => e = .returned (.bool (rightB a o)) ∧ Below w.heap.size w w' := by
  have HB : Hid (∀ o, Below w.heap.size w (w.alloc o)) := below_new w
  go_enter Try.func10, Try.ntmps10
  go_wp2
  all_goals (go_ret; exact ⟨ret_bool (by simp [rightB, *] <;> omega), HB.out _⟩)

theorem refRight_any (a o m v : Int) (w : World) :
    Calls Try.prog 11 #[.agg #[.int .i64 a, .int .i64 o, .int .u64 m, .int .u64 v]] w fun e w' => e = .returned (.bool (rightB a o)) ∧ Below w.heap.size w w' := by
  have HB : Hid (∀ o, Below w.heap.size w (w.alloc o)) := below_new w
  go_enter Try.func11, Try.ntmps11
  go_wp2
  all_goals (go_ret; exact ⟨ret_bool (by simp [rightB, *] <;> omega), HB.out _⟩)

theorem hasForm_any (o : Int) (w : World) :
    Calls Try.prog 24 #[.int .i64 o] w fun e w' => e = .returned (.bool (hasF o)) ∧ w' = w := by
  go_enter Try.func24, Try.ntmps24
  go_wp2
  all_goals (go_ret; exact ⟨ret_bool (by simp [hasF, *]), rfl⟩)

theorem refHeld_any (o x v : Int) (w : World) :
    Calls Try.prog 27 #[.int .i64 o, .int .u64 x, .int .u64 v] w fun e w' => e = .returned (.bool (heldB o x v)) ∧ w' = w := by
  go_enter Try.func27, Try.ntmps27
  go_wp2
  all_goals (go_ret; exact ⟨ret_bool (by simp [heldB, *] <;> rfl), rfl⟩)

theorem never_any (w : World) :
    Calls Try.prog 23 #[] w fun e w' => e = .returned never.val ∧ Below w.heap.size w w' := by
  have HB : Hid (∀ o, Below w.heap.size w (w.alloc o)) := below_new w
  go_enter Try.func23, Try.ntmps23
  go_wp2
  refine bodyPost_ret (v := never.val) (by simp [results, Try.results23, go_sem, never, No.val, No.cells]) rfl ⟨rfl, ?_⟩
  exact HB.out _

theorem always_any (w : World) :
    Calls Try.prog 29 #[] w fun e w' => e = .returned always.val ∧ Below w.heap.size w w' := by
  have HB : Hid (∀ o, Below w.heap.size w (w.alloc o)) := below_new w
  go_enter Try.func29, Try.ntmps29
  go_wp2
  refine bodyPost_ret (v := always.val) (by simp [results, Try.results29, go_sem, always, No.val, No.cells]) rfl ⟨rfl, ?_⟩
  exact HB.out _

end Go.Proofs.Ytocebgkiaclekaa
