/-
  Whether conditions may be, how numbers stand to each other, which op is another one's opposite, and the forms Always and Never: proved.
-/
import Derived.Test.YtcckipimfgmmdaaGreatDoorCMem
namespace Go.Proofs.YtcckipimfgmmdaaGreatDoor.C
open Go.RowKit

theorem right_any (a o m v : Int) (w : World) :
    Calls Tryz.prog 102 #[.agg #[.int .i64 a, .int .i64 o, .int .u64 m, .int .u64 v]] w fun e w' => e = .returned (.bool (rightB a o)) ∧ Below w.heap.size w w' := by
  have HB : Hid (∀ o, Below w.heap.size w (w.alloc o)) := below_new w
  go_enter Tryz.func102, Tryz.ntmps102
  go_wp2
  all_goals (go_ret; exact ⟨ret_bool (by simp [rightB, *] <;> omega), HB.out _⟩)

theorem hasForm_any (o : Int) (w : World) :
    Calls Tryz.prog 185 #[.int .i64 o] w fun e w' => e = .returned (.bool (hasF o)) ∧ w' = w := by
  go_enter Tryz.func185, Tryz.ntmps185
  go_wp2
  all_goals (go_ret; exact ⟨ret_bool (by simp [hasF, *]), rfl⟩)

theorem never_any (w : World) :
    Calls Tryz.prog 184 #[] w fun e w' => e = .returned never.val ∧ Below w.heap.size w w' := by
  have HB : Hid (∀ o, Below w.heap.size w (w.alloc o)) := below_new w
  go_enter Tryz.func184, Tryz.ntmps184
  go_wp2
  refine bodyPost_ret (v := never.val) (by simp [results, Tryz.results184, go_sem, never, No.val, No.cells]) rfl ⟨rfl, ?_⟩
  exact HB.out _

theorem always_any (w : World) :
    Calls Tryz.prog 195 #[] w fun e w' => e = .returned always.val ∧ Below w.heap.size w w' := by
  have HB : Hid (∀ o, Below w.heap.size w (w.alloc o)) := below_new w
  go_enter Tryz.func195, Tryz.ntmps195
  go_wp2
  refine bodyPost_ret (v := always.val) (by simp [results, Tryz.results195, go_sem, always, No.val, No.cells]) rfl ⟨rfl, ?_⟩
  exact HB.out _

end Go.Proofs.YtcckipimfgmmdaaGreatDoor.C
