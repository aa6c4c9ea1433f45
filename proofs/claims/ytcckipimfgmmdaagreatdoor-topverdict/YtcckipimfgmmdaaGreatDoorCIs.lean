/-
  Whether a form holds of a number, by package cond and by the document: proved of every form and number.
-/
import Derived.Test.YtcckipimfgmmdaaGreatDoorCHeld
namespace Go.Proofs.YtcckipimfgmmdaaGreatDoor.C
open Go.RowKit

theorem is_said (b0 b1 b2 : Bool) (o m v x : Int) (w : World) (h : (b0 || b1) = true) :
    Calls Tryz.prog 169 #[.agg #[.bool b0, .bool b1, .bool b2, .int .i64 o, .int .u64 m, .int .u64 v], .int .u64 x] w fun e w' => e = .returned (.bool b0) ∧ Below w.heap.size w w' := by
  have HB : Hid (∀ o, Below w.heap.size w (w.alloc o)) := below_new w
  have hb : b0 = true ∨ (b0 = false ∧ b1 = true) := by cases b0 <;> simp_all
  clear h
  rcases hb with rfl | ⟨rfl, rfl⟩
  all_goals
    go_enter Tryz.func169, Tryz.ntmps169
    go_wp2
    go_ret
    exact ⟨rfl, HB.out _⟩

set_option maxHeartbeats 400000 in
theorem is_has (b2 : Bool) (o m v x : Int) (w : World) (ho : hasF o = true) :
    Calls Tryz.prog 169 #[.agg #[.bool false, .bool false, .bool b2, .int .i64 o, .int .u64 m, .int .u64 v], .int .u64 x] w fun e w' => e = .returned (.bool (!(heldB o (an x m) v == b2))) ∧ Below w.heap.size w w' := by
  have HB : Hid (Blk (w.alloc (Obj.cells #[.bool false, .bool false, .bool b2, .int .i64 o, .int .u64 m, .int .u64 v] 239)) w.heap.size 239 [.bool false, .bool false, .bool b2, .int .i64 o, .int .u64 m, .int .u64 v]) := blk_new w _ 239
  have HB2 : Hid (Below w.heap.size w (w.alloc (Obj.cells #[.bool false, .bool false, .bool b2, .int .i64 o, .int .u64 m, .int .u64 v] 239))) := below_new w _
  have HH : Hid (∀ W : World, Calls Tryz.prog 185 #[.int .i64 o] W fun e w' => e = .returned (.bool true) ∧ w' = W) := fun W => ho ▸ hasForm_any o W
  have h16 : 1 ≤ o ∧ o ≤ 6 := by
    have hcase : o = 1 ∨ o = 5 ∨ o = 6 := by simpa [hasF, or_assoc] using ho
    omega
  have HL : Hid (∀ W : World, Calls Tryz.prog 129 #[.int .i64 o, .int .u64 x, .int .u64 m, .int .u64 v] W fun e w' => e = .returned (.bool (heldB o (an x m) v)) ∧ Below W.heap.size W w') := fun W => held_any o x m v W h16.1 h16.2
  clear ho h16
  generalize heldB o (an x m) v = q at *
  go_enter Tryz.func169, Tryz.ntmps169
  go_wp2_with (first | (go_at_call 185; refine (HH.out _).mono ?_; rintro e w1 ⟨rfl, rfl⟩) | (go_at_call 129; refine (HL.out _).mono ?_; rintro e w2 ⟨rfl, b2'⟩; have c2 := (HB.out.over b2').cell 2; have B2 : Hid (Below w.heap.size w w2) := HB2.out.trans (b2'.mono HB2.out.size); clear b2'))
  all_goals
    go_ret
    exact ⟨by cases q <;> cases b2 <;> rfl, B2.out⟩

set_option maxHeartbeats 400000 in
theorem is_none (b2 : Bool) (o m v x : Int) (w : World) (ho : hasF o = false) :
    Calls Tryz.prog 169 #[.agg #[.bool false, .bool false, .bool b2, .int .i64 o, .int .u64 m, .int .u64 v], .int .u64 x] w fun e w' => e = .returned (.bool (!(false == b2))) ∧ Below w.heap.size w w' := by
  have HB2 : Hid (Below w.heap.size w (w.alloc (Obj.cells #[.bool false, .bool false, .bool b2, .int .i64 o, .int .u64 m, .int .u64 v] 239))) := below_new w _
  have HH : Hid (∀ W : World, Calls Tryz.prog 185 #[.int .i64 o] W fun e w' => e = .returned (.bool false) ∧ w' = W) := fun W => ho ▸ hasForm_any o W
  clear ho
  go_enter Tryz.func169, Tryz.ntmps169
  go_wp2_with (first | (go_at_call 185; refine (HH.out _).mono ?_; rintro e w1 ⟨rfl, rfl⟩))
  all_goals
    go_ret
    exact ⟨by cases b2 <;> rfl, HB2.out⟩

theorem is_any (n : No) (x : Int) (w : World) :
    Calls Tryz.prog 169 #[n.val, .int .u64 x] w fun e w' => e = .returned (.bool (isN n x)) ∧ Below w.heap.size w w' := by
  obtain ⟨b0, b1, b2, o, m, v⟩ := n
  unfold isN
  by_cases h : (b0 || b1) = true
  · rw [if_pos h]
    exact is_said b0 b1 b2 o m v x w h
  · rw [if_neg h]
    obtain ⟨rfl, rfl⟩ : b0 = false ∧ b1 = false := by simpa using h
    by_cases ho : hasF o = true
    · dsimp only
      rw [ho, Bool.true_and]
      exact is_has b2 o m v x w ho
    · have ho' : hasF o = false := by simpa using ho
      dsimp only
      rw [ho', Bool.false_and]
      exact is_none b2 o m v x w ho'


end Go.Proofs.YtcckipimfgmmdaaGreatDoor.C
