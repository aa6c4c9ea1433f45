/-
  The small question that each law asks first comes out true, and turns nothing that was there.
-/
import Derived.Test.YtocebgkiaclekaaNorm
import Derived.Test.YtocebgkiaclekaaHolds
namespace Go.Proofs.Ytocebgkiaclekaa
open Go.RowKit

theorem norm_45 : normN 0 4 7 5 = ⟨false, false, true, 5, 7, 5⟩ := by rfl
theorem hold_45 : holdN 0 4 7 5 13 = true := by kernel_rfl

theorem d13_ok : (Da.mk 0 0 0 [13, 0, 0, 0, 0, 0]).ok := by
  refine ⟨⟨by decide, by decide⟩, ⟨by decide, by decide⟩, ⟨by decide, by decide⟩, rfl, ?_⟩
  intro z hz
  simp only [List.mem_cons, List.not_mem_nil, or_false] at hz
  rcases hz with rfl | rfl | rfl | rfl | rfl | rfl <;> exact ⟨by decide, by decide⟩

set_option maxHeartbeats 800000 in
theorem awake_any (w : World) :
    Calls Try.prog 9 #[] w fun e w' => e = .returned (.bool true) ∧ Below w.heap.size w w' := by
  have H1 : Hid (∀ W : World, Calls Try.prog 16 #[.agg #[.int .i64 0, .int .i64 4, .int .u64 7, .int .u64 5]] W fun e w' => e = .returned (.agg #[.bool false, .bool false, .bool true, .int .i64 5, .int .u64 7, .int .u64 5]) ∧ Below W.heap.size W w') := by
    intro W
    have := norm_any 0 4 7 5 W
    rw [norm_45] at this
    exact this
  have H2 : Hid (∀ W : World, Calls Try.prog 12 #[.agg #[.int .i64 0, .int .i64 4, .int .u64 7, .int .u64 5], .agg #[.int .u32 0, .int .u32 0, .int .u64 0, .int .u64 13, .int .u64 0, .int .u64 0, .int .u64 0, .int .u64 0, .int .u64 0]] W fun e w' => e = .returned (.bool true) ∧ Below W.heap.size W w') := by
    intro W
    have := holds_any 0 4 7 5 ⟨0, 0, 0, [13, 0, 0, 0, 0, 0]⟩ W d13_ok
    rw [show holdN 0 4 7 5 ((Da.mk 0 0 0 [13, 0, 0, 0, 0, 0]).g.getD (0 : Int).toNat 0) = true from hold_45] at this
    exact this
  have hq : ∀ W : World, (Op.equalIn 10000 36 (.agg #[.bool false, .bool false, .bool true, .int .i64 5, .int .u64 7, .int .u64 5]) (.agg #[.bool false, .bool false, .bool true, .int .i64 5, .int .u64 7, .int .u64 5])).run Try.prog W = .ok true W := fun W => equalIn_no ⟨false, false, true, 5, 7, 5⟩ ⟨false, false, true, 5, 7, 5⟩ W
  have HB : Hid (Blk (w.alloc (Obj.cells #[.int .i64 0, .int .i64 4, .int .u64 7, .int .u64 5] 24)) w.heap.size 24 [.int .i64 0, .int .i64 4, .int .u64 7, .int .u64 5]) := blk_new w _ 24
  have HB2 : Hid (∀ o, Below w.heap.size w (w.alloc o)) := below_new w
  go_enter Try.func9, Try.ntmps9
  go_wp2_with (first | (go_at_call 16; refine (H1.out _).mono ?_; rintro e w1 ⟨rfl, b1⟩; have c0 := (HB.out.over b1).cell 0; have c1 := (HB.out.over b1).cell 1; have c2 := (HB.out.over b1).cell 2; have c3 := (HB.out.over b1).cell 3; have B1 : Hid (Below w.heap.size w w1) := (HB2.out _).trans (b1.mono (HB2.out _).size); clear b1) | (go_at_call 12; refine (H2.out _).mono ?_; rintro e w2 ⟨rfl, b2⟩; have B2 : Hid (Below w.heap.size w w2) := B1.out.trans (b2.mono B1.out.size); clear b2))
  go_ret
  exact ⟨rfl, B2.out⟩

end Go.Proofs.Ytocebgkiaclekaa
