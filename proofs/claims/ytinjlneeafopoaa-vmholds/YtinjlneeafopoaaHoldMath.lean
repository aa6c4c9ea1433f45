/-
  Programs that hold two numbers against each other, run: what comes of them.
-/
import Derived.Test.YtinjlneeafopoaaAwake
namespace Go.Proofs.Ytinjlneeafopoaa
open Go.RowKit

theorem hold_21_true (a n : Int) (h : holdsV 21 a n = true) : ansV [⟨0, 0, 0, a⟩, ⟨21, 0, 1, n⟩, ⟨6, 0, 0, 1⟩, ⟨6, 0, 0, 2⟩] (nr 0) = 1 ∧ errV [⟨0, 0, 0, a⟩, ⟨21, 0, 1, n⟩, ⟨6, 0, 0, 1⟩, ⟨6, 0, 0, 2⟩] = 0 := by
  have e0 : errV [⟨0, 0, 0, a⟩, ⟨21, 0, 1, n⟩, ⟨6, 0, 0, 1⟩, ⟨6, 0, 0, 2⟩] = 0 := by kernel_rfl
  refine ⟨?_, e0⟩
  unfold ansV
  rw [if_pos e0]
  have e1 : allV [⟨0, 0, 0, a⟩, ⟨21, 0, 1, n⟩, ⟨6, 0, 0, 1⟩, ⟨6, 0, 0, 2⟩] (nr 0) = (0 :: (runV [⟨0, 0, 0, a⟩, ⟨21, 0, 1, n⟩, ⟨6, 0, 0, 1⟩, ⟨6, 0, 0, 2⟩] (nr 0) 3 1 ⟨a, 0, fun _ => 0, 0⟩).1, (runV [⟨0, 0, 0, a⟩, ⟨21, 0, 1, n⟩, ⟨6, 0, 0, 1⟩, ⟨6, 0, 0, 2⟩] (nr 0) 3 1 ⟨a, 0, fun _ => 0, 0⟩).2) := by kernel_rfl
  have e2 : nextV 4 (nr 0) ⟨21, 0, 1, n⟩ 1 ⟨a, 0, fun _ => 0, 0⟩ = (1 + 1 + (if holdsV 21 a n = true then 0 else 1), ⟨a, 0, fun _ => 0, 0⟩) := by kernel_rfl
  have e3 : runV [⟨0, 0, 0, a⟩, ⟨21, 0, 1, n⟩, ⟨6, 0, 0, 1⟩, ⟨6, 0, 0, 2⟩] (nr 0) 3 1 ⟨a, 0, fun _ => 0, 0⟩ = (1 :: (runV [⟨0, 0, 0, a⟩, ⟨21, 0, 1, n⟩, ⟨6, 0, 0, 1⟩, ⟨6, 0, 0, 2⟩] (nr 0) 2 (nextV 4 (nr 0) ⟨21, 0, 1, n⟩ 1 ⟨a, 0, fun _ => 0, 0⟩).1.toNat (nextV 4 (nr 0) ⟨21, 0, 1, n⟩ 1 ⟨a, 0, fun _ => 0, 0⟩).2).1, (runV [⟨0, 0, 0, a⟩, ⟨21, 0, 1, n⟩, ⟨6, 0, 0, 1⟩, ⟨6, 0, 0, 2⟩] (nr 0) 2 (nextV 4 (nr 0) ⟨21, 0, 1, n⟩ 1 ⟨a, 0, fun _ => 0, 0⟩).1.toNat (nextV 4 (nr 0) ⟨21, 0, 1, n⟩ 1 ⟨a, 0, fun _ => 0, 0⟩).2).2) := by kernel_rfl
  rw [e1, e3, e2, h]
  show _ = _
  kernel_rfl
theorem holdX_21_true (a n : Int) (h : holdsV 21 a n = true) : ansV [⟨0, 0, 0, a⟩, ⟨1, 0, 0, n⟩, ⟨29, 0, 1, 0⟩, ⟨6, 0, 0, 1⟩, ⟨6, 0, 0, 2⟩] (nr 0) = 1 ∧ errV [⟨0, 0, 0, a⟩, ⟨1, 0, 0, n⟩, ⟨29, 0, 1, 0⟩, ⟨6, 0, 0, 1⟩, ⟨6, 0, 0, 2⟩] = 0 := by
  have e0 : errV [⟨0, 0, 0, a⟩, ⟨1, 0, 0, n⟩, ⟨29, 0, 1, 0⟩, ⟨6, 0, 0, 1⟩, ⟨6, 0, 0, 2⟩] = 0 := by kernel_rfl
  refine ⟨?_, e0⟩
  unfold ansV
  rw [if_pos e0]
  have e1 : allV [⟨0, 0, 0, a⟩, ⟨1, 0, 0, n⟩, ⟨29, 0, 1, 0⟩, ⟨6, 0, 0, 1⟩, ⟨6, 0, 0, 2⟩] (nr 0) = (0 :: 1 :: (runV [⟨0, 0, 0, a⟩, ⟨1, 0, 0, n⟩, ⟨29, 0, 1, 0⟩, ⟨6, 0, 0, 1⟩, ⟨6, 0, 0, 2⟩] (nr 0) 3 2 ⟨a, n, fun _ => 0, 0⟩).1, (runV [⟨0, 0, 0, a⟩, ⟨1, 0, 0, n⟩, ⟨29, 0, 1, 0⟩, ⟨6, 0, 0, 1⟩, ⟨6, 0, 0, 2⟩] (nr 0) 3 2 ⟨a, n, fun _ => 0, 0⟩).2) := by kernel_rfl
  have e2 : nextV 5 (nr 0) ⟨29, 0, 1, 0⟩ 2 ⟨a, n, fun _ => 0, 0⟩ = (2 + 1 + (if holdsV 21 a n = true then 0 else 1), ⟨a, n, fun _ => 0, 0⟩) := by kernel_rfl
  have e3 : runV [⟨0, 0, 0, a⟩, ⟨1, 0, 0, n⟩, ⟨29, 0, 1, 0⟩, ⟨6, 0, 0, 1⟩, ⟨6, 0, 0, 2⟩] (nr 0) 3 2 ⟨a, n, fun _ => 0, 0⟩ = (2 :: (runV [⟨0, 0, 0, a⟩, ⟨1, 0, 0, n⟩, ⟨29, 0, 1, 0⟩, ⟨6, 0, 0, 1⟩, ⟨6, 0, 0, 2⟩] (nr 0) 2 (nextV 5 (nr 0) ⟨29, 0, 1, 0⟩ 2 ⟨a, n, fun _ => 0, 0⟩).1.toNat (nextV 5 (nr 0) ⟨29, 0, 1, 0⟩ 2 ⟨a, n, fun _ => 0, 0⟩).2).1, (runV [⟨0, 0, 0, a⟩, ⟨1, 0, 0, n⟩, ⟨29, 0, 1, 0⟩, ⟨6, 0, 0, 1⟩, ⟨6, 0, 0, 2⟩] (nr 0) 2 (nextV 5 (nr 0) ⟨29, 0, 1, 0⟩ 2 ⟨a, n, fun _ => 0, 0⟩).1.toNat (nextV 5 (nr 0) ⟨29, 0, 1, 0⟩ 2 ⟨a, n, fun _ => 0, 0⟩).2).2) := by kernel_rfl
  rw [e1, e3, e2, h]
  show _ = _
  kernel_rfl
theorem hold_21_false (a n : Int) (h : holdsV 21 a n = false) : ansV [⟨0, 0, 0, a⟩, ⟨21, 0, 1, n⟩, ⟨6, 0, 0, 1⟩, ⟨6, 0, 0, 2⟩] (nr 0) = 2 ∧ errV [⟨0, 0, 0, a⟩, ⟨21, 0, 1, n⟩, ⟨6, 0, 0, 1⟩, ⟨6, 0, 0, 2⟩] = 0 := by
  have e0 : errV [⟨0, 0, 0, a⟩, ⟨21, 0, 1, n⟩, ⟨6, 0, 0, 1⟩, ⟨6, 0, 0, 2⟩] = 0 := by kernel_rfl
  refine ⟨?_, e0⟩
  unfold ansV
  rw [if_pos e0]
  have e1 : allV [⟨0, 0, 0, a⟩, ⟨21, 0, 1, n⟩, ⟨6, 0, 0, 1⟩, ⟨6, 0, 0, 2⟩] (nr 0) = (0 :: (runV [⟨0, 0, 0, a⟩, ⟨21, 0, 1, n⟩, ⟨6, 0, 0, 1⟩, ⟨6, 0, 0, 2⟩] (nr 0) 3 1 ⟨a, 0, fun _ => 0, 0⟩).1, (runV [⟨0, 0, 0, a⟩, ⟨21, 0, 1, n⟩, ⟨6, 0, 0, 1⟩, ⟨6, 0, 0, 2⟩] (nr 0) 3 1 ⟨a, 0, fun _ => 0, 0⟩).2) := by kernel_rfl
  have e2 : nextV 4 (nr 0) ⟨21, 0, 1, n⟩ 1 ⟨a, 0, fun _ => 0, 0⟩ = (1 + 1 + (if holdsV 21 a n = true then 0 else 1), ⟨a, 0, fun _ => 0, 0⟩) := by kernel_rfl
  have e3 : runV [⟨0, 0, 0, a⟩, ⟨21, 0, 1, n⟩, ⟨6, 0, 0, 1⟩, ⟨6, 0, 0, 2⟩] (nr 0) 3 1 ⟨a, 0, fun _ => 0, 0⟩ = (1 :: (runV [⟨0, 0, 0, a⟩, ⟨21, 0, 1, n⟩, ⟨6, 0, 0, 1⟩, ⟨6, 0, 0, 2⟩] (nr 0) 2 (nextV 4 (nr 0) ⟨21, 0, 1, n⟩ 1 ⟨a, 0, fun _ => 0, 0⟩).1.toNat (nextV 4 (nr 0) ⟨21, 0, 1, n⟩ 1 ⟨a, 0, fun _ => 0, 0⟩).2).1, (runV [⟨0, 0, 0, a⟩, ⟨21, 0, 1, n⟩, ⟨6, 0, 0, 1⟩, ⟨6, 0, 0, 2⟩] (nr 0) 2 (nextV 4 (nr 0) ⟨21, 0, 1, n⟩ 1 ⟨a, 0, fun _ => 0, 0⟩).1.toNat (nextV 4 (nr 0) ⟨21, 0, 1, n⟩ 1 ⟨a, 0, fun _ => 0, 0⟩).2).2) := by kernel_rfl
  rw [e1, e3, e2, h]
  show _ = _
  kernel_rfl
theorem holdX_21_false (a n : Int) (h : holdsV 21 a n = false) : ansV [⟨0, 0, 0, a⟩, ⟨1, 0, 0, n⟩, ⟨29, 0, 1, 0⟩, ⟨6, 0, 0, 1⟩, ⟨6, 0, 0, 2⟩] (nr 0) = 2 ∧ errV [⟨0, 0, 0, a⟩, ⟨1, 0, 0, n⟩, ⟨29, 0, 1, 0⟩, ⟨6, 0, 0, 1⟩, ⟨6, 0, 0, 2⟩] = 0 := by
  have e0 : errV [⟨0, 0, 0, a⟩, ⟨1, 0, 0, n⟩, ⟨29, 0, 1, 0⟩, ⟨6, 0, 0, 1⟩, ⟨6, 0, 0, 2⟩] = 0 := by kernel_rfl
  refine ⟨?_, e0⟩
  unfold ansV
  rw [if_pos e0]
  have e1 : allV [⟨0, 0, 0, a⟩, ⟨1, 0, 0, n⟩, ⟨29, 0, 1, 0⟩, ⟨6, 0, 0, 1⟩, ⟨6, 0, 0, 2⟩] (nr 0) = (0 :: 1 :: (runV [⟨0, 0, 0, a⟩, ⟨1, 0, 0, n⟩, ⟨29, 0, 1, 0⟩, ⟨6, 0, 0, 1⟩, ⟨6, 0, 0, 2⟩] (nr 0) 3 2 ⟨a, n, fun _ => 0, 0⟩).1, (runV [⟨0, 0, 0, a⟩, ⟨1, 0, 0, n⟩, ⟨29, 0, 1, 0⟩, ⟨6, 0, 0, 1⟩, ⟨6, 0, 0, 2⟩] (nr 0) 3 2 ⟨a, n, fun _ => 0, 0⟩).2) := by kernel_rfl
  have e2 : nextV 5 (nr 0) ⟨29, 0, 1, 0⟩ 2 ⟨a, n, fun _ => 0, 0⟩ = (2 + 1 + (if holdsV 21 a n = true then 0 else 1), ⟨a, n, fun _ => 0, 0⟩) := by kernel_rfl
  have e3 : runV [⟨0, 0, 0, a⟩, ⟨1, 0, 0, n⟩, ⟨29, 0, 1, 0⟩, ⟨6, 0, 0, 1⟩, ⟨6, 0, 0, 2⟩] (nr 0) 3 2 ⟨a, n, fun _ => 0, 0⟩ = (2 :: (runV [⟨0, 0, 0, a⟩, ⟨1, 0, 0, n⟩, ⟨29, 0, 1, 0⟩, ⟨6, 0, 0, 1⟩, ⟨6, 0, 0, 2⟩] (nr 0) 2 (nextV 5 (nr 0) ⟨29, 0, 1, 0⟩ 2 ⟨a, n, fun _ => 0, 0⟩).1.toNat (nextV 5 (nr 0) ⟨29, 0, 1, 0⟩ 2 ⟨a, n, fun _ => 0, 0⟩).2).1, (runV [⟨0, 0, 0, a⟩, ⟨1, 0, 0, n⟩, ⟨29, 0, 1, 0⟩, ⟨6, 0, 0, 1⟩, ⟨6, 0, 0, 2⟩] (nr 0) 2 (nextV 5 (nr 0) ⟨29, 0, 1, 0⟩ 2 ⟨a, n, fun _ => 0, 0⟩).1.toNat (nextV 5 (nr 0) ⟨29, 0, 1, 0⟩ 2 ⟨a, n, fun _ => 0, 0⟩).2).2) := by kernel_rfl
  rw [e1, e3, e2, h]
  show _ = _
  kernel_rfl
theorem or8_21 : bits .or .u16 21 8 = 29 := by kernel_rfl

theorem hold_37_true (a n : Int) (h : holdsV 37 a n = true) : ansV [⟨0, 0, 0, a⟩, ⟨37, 0, 1, n⟩, ⟨6, 0, 0, 1⟩, ⟨6, 0, 0, 2⟩] (nr 0) = 1 ∧ errV [⟨0, 0, 0, a⟩, ⟨37, 0, 1, n⟩, ⟨6, 0, 0, 1⟩, ⟨6, 0, 0, 2⟩] = 0 := by
  have e0 : errV [⟨0, 0, 0, a⟩, ⟨37, 0, 1, n⟩, ⟨6, 0, 0, 1⟩, ⟨6, 0, 0, 2⟩] = 0 := by kernel_rfl
  refine ⟨?_, e0⟩
  unfold ansV
  rw [if_pos e0]
  have e1 : allV [⟨0, 0, 0, a⟩, ⟨37, 0, 1, n⟩, ⟨6, 0, 0, 1⟩, ⟨6, 0, 0, 2⟩] (nr 0) = (0 :: (runV [⟨0, 0, 0, a⟩, ⟨37, 0, 1, n⟩, ⟨6, 0, 0, 1⟩, ⟨6, 0, 0, 2⟩] (nr 0) 3 1 ⟨a, 0, fun _ => 0, 0⟩).1, (runV [⟨0, 0, 0, a⟩, ⟨37, 0, 1, n⟩, ⟨6, 0, 0, 1⟩, ⟨6, 0, 0, 2⟩] (nr 0) 3 1 ⟨a, 0, fun _ => 0, 0⟩).2) := by kernel_rfl
  have e2 : nextV 4 (nr 0) ⟨37, 0, 1, n⟩ 1 ⟨a, 0, fun _ => 0, 0⟩ = (1 + 1 + (if holdsV 37 a n = true then 0 else 1), ⟨a, 0, fun _ => 0, 0⟩) := by kernel_rfl
  have e3 : runV [⟨0, 0, 0, a⟩, ⟨37, 0, 1, n⟩, ⟨6, 0, 0, 1⟩, ⟨6, 0, 0, 2⟩] (nr 0) 3 1 ⟨a, 0, fun _ => 0, 0⟩ = (1 :: (runV [⟨0, 0, 0, a⟩, ⟨37, 0, 1, n⟩, ⟨6, 0, 0, 1⟩, ⟨6, 0, 0, 2⟩] (nr 0) 2 (nextV 4 (nr 0) ⟨37, 0, 1, n⟩ 1 ⟨a, 0, fun _ => 0, 0⟩).1.toNat (nextV 4 (nr 0) ⟨37, 0, 1, n⟩ 1 ⟨a, 0, fun _ => 0, 0⟩).2).1, (runV [⟨0, 0, 0, a⟩, ⟨37, 0, 1, n⟩, ⟨6, 0, 0, 1⟩, ⟨6, 0, 0, 2⟩] (nr 0) 2 (nextV 4 (nr 0) ⟨37, 0, 1, n⟩ 1 ⟨a, 0, fun _ => 0, 0⟩).1.toNat (nextV 4 (nr 0) ⟨37, 0, 1, n⟩ 1 ⟨a, 0, fun _ => 0, 0⟩).2).2) := by kernel_rfl
  rw [e1, e3, e2, h]
  show _ = _
  kernel_rfl
theorem holdX_37_true (a n : Int) (h : holdsV 37 a n = true) : ansV [⟨0, 0, 0, a⟩, ⟨1, 0, 0, n⟩, ⟨45, 0, 1, 0⟩, ⟨6, 0, 0, 1⟩, ⟨6, 0, 0, 2⟩] (nr 0) = 1 ∧ errV [⟨0, 0, 0, a⟩, ⟨1, 0, 0, n⟩, ⟨45, 0, 1, 0⟩, ⟨6, 0, 0, 1⟩, ⟨6, 0, 0, 2⟩] = 0 := by
  have e0 : errV [⟨0, 0, 0, a⟩, ⟨1, 0, 0, n⟩, ⟨45, 0, 1, 0⟩, ⟨6, 0, 0, 1⟩, ⟨6, 0, 0, 2⟩] = 0 := by kernel_rfl
  refine ⟨?_, e0⟩
  unfold ansV
  rw [if_pos e0]
  have e1 : allV [⟨0, 0, 0, a⟩, ⟨1, 0, 0, n⟩, ⟨45, 0, 1, 0⟩, ⟨6, 0, 0, 1⟩, ⟨6, 0, 0, 2⟩] (nr 0) = (0 :: 1 :: (runV [⟨0, 0, 0, a⟩, ⟨1, 0, 0, n⟩, ⟨45, 0, 1, 0⟩, ⟨6, 0, 0, 1⟩, ⟨6, 0, 0, 2⟩] (nr 0) 3 2 ⟨a, n, fun _ => 0, 0⟩).1, (runV [⟨0, 0, 0, a⟩, ⟨1, 0, 0, n⟩, ⟨45, 0, 1, 0⟩, ⟨6, 0, 0, 1⟩, ⟨6, 0, 0, 2⟩] (nr 0) 3 2 ⟨a, n, fun _ => 0, 0⟩).2) := by kernel_rfl
  have e2 : nextV 5 (nr 0) ⟨45, 0, 1, 0⟩ 2 ⟨a, n, fun _ => 0, 0⟩ = (2 + 1 + (if holdsV 37 a n = true then 0 else 1), ⟨a, n, fun _ => 0, 0⟩) := by kernel_rfl
  have e3 : runV [⟨0, 0, 0, a⟩, ⟨1, 0, 0, n⟩, ⟨45, 0, 1, 0⟩, ⟨6, 0, 0, 1⟩, ⟨6, 0, 0, 2⟩] (nr 0) 3 2 ⟨a, n, fun _ => 0, 0⟩ = (2 :: (runV [⟨0, 0, 0, a⟩, ⟨1, 0, 0, n⟩, ⟨45, 0, 1, 0⟩, ⟨6, 0, 0, 1⟩, ⟨6, 0, 0, 2⟩] (nr 0) 2 (nextV 5 (nr 0) ⟨45, 0, 1, 0⟩ 2 ⟨a, n, fun _ => 0, 0⟩).1.toNat (nextV 5 (nr 0) ⟨45, 0, 1, 0⟩ 2 ⟨a, n, fun _ => 0, 0⟩).2).1, (runV [⟨0, 0, 0, a⟩, ⟨1, 0, 0, n⟩, ⟨45, 0, 1, 0⟩, ⟨6, 0, 0, 1⟩, ⟨6, 0, 0, 2⟩] (nr 0) 2 (nextV 5 (nr 0) ⟨45, 0, 1, 0⟩ 2 ⟨a, n, fun _ => 0, 0⟩).1.toNat (nextV 5 (nr 0) ⟨45, 0, 1, 0⟩ 2 ⟨a, n, fun _ => 0, 0⟩).2).2) := by kernel_rfl
  rw [e1, e3, e2, h]
  show _ = _
  kernel_rfl
theorem hold_37_false (a n : Int) (h : holdsV 37 a n = false) : ansV [⟨0, 0, 0, a⟩, ⟨37, 0, 1, n⟩, ⟨6, 0, 0, 1⟩, ⟨6, 0, 0, 2⟩] (nr 0) = 2 ∧ errV [⟨0, 0, 0, a⟩, ⟨37, 0, 1, n⟩, ⟨6, 0, 0, 1⟩, ⟨6, 0, 0, 2⟩] = 0 := by
  have e0 : errV [⟨0, 0, 0, a⟩, ⟨37, 0, 1, n⟩, ⟨6, 0, 0, 1⟩, ⟨6, 0, 0, 2⟩] = 0 := by kernel_rfl
  refine ⟨?_, e0⟩
  unfold ansV
  rw [if_pos e0]
  have e1 : allV [⟨0, 0, 0, a⟩, ⟨37, 0, 1, n⟩, ⟨6, 0, 0, 1⟩, ⟨6, 0, 0, 2⟩] (nr 0) = (0 :: (runV [⟨0, 0, 0, a⟩, ⟨37, 0, 1, n⟩, ⟨6, 0, 0, 1⟩, ⟨6, 0, 0, 2⟩] (nr 0) 3 1 ⟨a, 0, fun _ => 0, 0⟩).1, (runV [⟨0, 0, 0, a⟩, ⟨37, 0, 1, n⟩, ⟨6, 0, 0, 1⟩, ⟨6, 0, 0, 2⟩] (nr 0) 3 1 ⟨a, 0, fun _ => 0, 0⟩).2) := by kernel_rfl
  have e2 : nextV 4 (nr 0) ⟨37, 0, 1, n⟩ 1 ⟨a, 0, fun _ => 0, 0⟩ = (1 + 1 + (if holdsV 37 a n = true then 0 else 1), ⟨a, 0, fun _ => 0, 0⟩) := by kernel_rfl
  have e3 : runV [⟨0, 0, 0, a⟩, ⟨37, 0, 1, n⟩, ⟨6, 0, 0, 1⟩, ⟨6, 0, 0, 2⟩] (nr 0) 3 1 ⟨a, 0, fun _ => 0, 0⟩ = (1 :: (runV [⟨0, 0, 0, a⟩, ⟨37, 0, 1, n⟩, ⟨6, 0, 0, 1⟩, ⟨6, 0, 0, 2⟩] (nr 0) 2 (nextV 4 (nr 0) ⟨37, 0, 1, n⟩ 1 ⟨a, 0, fun _ => 0, 0⟩).1.toNat (nextV 4 (nr 0) ⟨37, 0, 1, n⟩ 1 ⟨a, 0, fun _ => 0, 0⟩).2).1, (runV [⟨0, 0, 0, a⟩, ⟨37, 0, 1, n⟩, ⟨6, 0, 0, 1⟩, ⟨6, 0, 0, 2⟩] (nr 0) 2 (nextV 4 (nr 0) ⟨37, 0, 1, n⟩ 1 ⟨a, 0, fun _ => 0, 0⟩).1.toNat (nextV 4 (nr 0) ⟨37, 0, 1, n⟩ 1 ⟨a, 0, fun _ => 0, 0⟩).2).2) := by kernel_rfl
  rw [e1, e3, e2, h]
  show _ = _
  kernel_rfl
theorem holdX_37_false (a n : Int) (h : holdsV 37 a n = false) : ansV [⟨0, 0, 0, a⟩, ⟨1, 0, 0, n⟩, ⟨45, 0, 1, 0⟩, ⟨6, 0, 0, 1⟩, ⟨6, 0, 0, 2⟩] (nr 0) = 2 ∧ errV [⟨0, 0, 0, a⟩, ⟨1, 0, 0, n⟩, ⟨45, 0, 1, 0⟩, ⟨6, 0, 0, 1⟩, ⟨6, 0, 0, 2⟩] = 0 := by
  have e0 : errV [⟨0, 0, 0, a⟩, ⟨1, 0, 0, n⟩, ⟨45, 0, 1, 0⟩, ⟨6, 0, 0, 1⟩, ⟨6, 0, 0, 2⟩] = 0 := by kernel_rfl
  refine ⟨?_, e0⟩
  unfold ansV
  rw [if_pos e0]
  have e1 : allV [⟨0, 0, 0, a⟩, ⟨1, 0, 0, n⟩, ⟨45, 0, 1, 0⟩, ⟨6, 0, 0, 1⟩, ⟨6, 0, 0, 2⟩] (nr 0) = (0 :: 1 :: (runV [⟨0, 0, 0, a⟩, ⟨1, 0, 0, n⟩, ⟨45, 0, 1, 0⟩, ⟨6, 0, 0, 1⟩, ⟨6, 0, 0, 2⟩] (nr 0) 3 2 ⟨a, n, fun _ => 0, 0⟩).1, (runV [⟨0, 0, 0, a⟩, ⟨1, 0, 0, n⟩, ⟨45, 0, 1, 0⟩, ⟨6, 0, 0, 1⟩, ⟨6, 0, 0, 2⟩] (nr 0) 3 2 ⟨a, n, fun _ => 0, 0⟩).2) := by kernel_rfl
  have e2 : nextV 5 (nr 0) ⟨45, 0, 1, 0⟩ 2 ⟨a, n, fun _ => 0, 0⟩ = (2 + 1 + (if holdsV 37 a n = true then 0 else 1), ⟨a, n, fun _ => 0, 0⟩) := by kernel_rfl
  have e3 : runV [⟨0, 0, 0, a⟩, ⟨1, 0, 0, n⟩, ⟨45, 0, 1, 0⟩, ⟨6, 0, 0, 1⟩, ⟨6, 0, 0, 2⟩] (nr 0) 3 2 ⟨a, n, fun _ => 0, 0⟩ = (2 :: (runV [⟨0, 0, 0, a⟩, ⟨1, 0, 0, n⟩, ⟨45, 0, 1, 0⟩, ⟨6, 0, 0, 1⟩, ⟨6, 0, 0, 2⟩] (nr 0) 2 (nextV 5 (nr 0) ⟨45, 0, 1, 0⟩ 2 ⟨a, n, fun _ => 0, 0⟩).1.toNat (nextV 5 (nr 0) ⟨45, 0, 1, 0⟩ 2 ⟨a, n, fun _ => 0, 0⟩).2).1, (runV [⟨0, 0, 0, a⟩, ⟨1, 0, 0, n⟩, ⟨45, 0, 1, 0⟩, ⟨6, 0, 0, 1⟩, ⟨6, 0, 0, 2⟩] (nr 0) 2 (nextV 5 (nr 0) ⟨45, 0, 1, 0⟩ 2 ⟨a, n, fun _ => 0, 0⟩).1.toNat (nextV 5 (nr 0) ⟨45, 0, 1, 0⟩ 2 ⟨a, n, fun _ => 0, 0⟩).2).2) := by kernel_rfl
  rw [e1, e3, e2, h]
  show _ = _
  kernel_rfl
theorem or8_37 : bits .or .u16 37 8 = 45 := by kernel_rfl

theorem hold_53_true (a n : Int) (h : holdsV 53 a n = true) : ansV [⟨0, 0, 0, a⟩, ⟨53, 0, 1, n⟩, ⟨6, 0, 0, 1⟩, ⟨6, 0, 0, 2⟩] (nr 0) = 1 ∧ errV [⟨0, 0, 0, a⟩, ⟨53, 0, 1, n⟩, ⟨6, 0, 0, 1⟩, ⟨6, 0, 0, 2⟩] = 0 := by
  have e0 : errV [⟨0, 0, 0, a⟩, ⟨53, 0, 1, n⟩, ⟨6, 0, 0, 1⟩, ⟨6, 0, 0, 2⟩] = 0 := by kernel_rfl
  refine ⟨?_, e0⟩
  unfold ansV
  rw [if_pos e0]
  have e1 : allV [⟨0, 0, 0, a⟩, ⟨53, 0, 1, n⟩, ⟨6, 0, 0, 1⟩, ⟨6, 0, 0, 2⟩] (nr 0) = (0 :: (runV [⟨0, 0, 0, a⟩, ⟨53, 0, 1, n⟩, ⟨6, 0, 0, 1⟩, ⟨6, 0, 0, 2⟩] (nr 0) 3 1 ⟨a, 0, fun _ => 0, 0⟩).1, (runV [⟨0, 0, 0, a⟩, ⟨53, 0, 1, n⟩, ⟨6, 0, 0, 1⟩, ⟨6, 0, 0, 2⟩] (nr 0) 3 1 ⟨a, 0, fun _ => 0, 0⟩).2) := by kernel_rfl
  have e2 : nextV 4 (nr 0) ⟨53, 0, 1, n⟩ 1 ⟨a, 0, fun _ => 0, 0⟩ = (1 + 1 + (if holdsV 53 a n = true then 0 else 1), ⟨a, 0, fun _ => 0, 0⟩) := by kernel_rfl
  have e3 : runV [⟨0, 0, 0, a⟩, ⟨53, 0, 1, n⟩, ⟨6, 0, 0, 1⟩, ⟨6, 0, 0, 2⟩] (nr 0) 3 1 ⟨a, 0, fun _ => 0, 0⟩ = (1 :: (runV [⟨0, 0, 0, a⟩, ⟨53, 0, 1, n⟩, ⟨6, 0, 0, 1⟩, ⟨6, 0, 0, 2⟩] (nr 0) 2 (nextV 4 (nr 0) ⟨53, 0, 1, n⟩ 1 ⟨a, 0, fun _ => 0, 0⟩).1.toNat (nextV 4 (nr 0) ⟨53, 0, 1, n⟩ 1 ⟨a, 0, fun _ => 0, 0⟩).2).1, (runV [⟨0, 0, 0, a⟩, ⟨53, 0, 1, n⟩, ⟨6, 0, 0, 1⟩, ⟨6, 0, 0, 2⟩] (nr 0) 2 (nextV 4 (nr 0) ⟨53, 0, 1, n⟩ 1 ⟨a, 0, fun _ => 0, 0⟩).1.toNat (nextV 4 (nr 0) ⟨53, 0, 1, n⟩ 1 ⟨a, 0, fun _ => 0, 0⟩).2).2) := by kernel_rfl
  rw [e1, e3, e2, h]
  show _ = _
  kernel_rfl
theorem holdX_53_true (a n : Int) (h : holdsV 53 a n = true) : ansV [⟨0, 0, 0, a⟩, ⟨1, 0, 0, n⟩, ⟨61, 0, 1, 0⟩, ⟨6, 0, 0, 1⟩, ⟨6, 0, 0, 2⟩] (nr 0) = 1 ∧ errV [⟨0, 0, 0, a⟩, ⟨1, 0, 0, n⟩, ⟨61, 0, 1, 0⟩, ⟨6, 0, 0, 1⟩, ⟨6, 0, 0, 2⟩] = 0 := by
  have e0 : errV [⟨0, 0, 0, a⟩, ⟨1, 0, 0, n⟩, ⟨61, 0, 1, 0⟩, ⟨6, 0, 0, 1⟩, ⟨6, 0, 0, 2⟩] = 0 := by kernel_rfl
  refine ⟨?_, e0⟩
  unfold ansV
  rw [if_pos e0]
  have e1 : allV [⟨0, 0, 0, a⟩, ⟨1, 0, 0, n⟩, ⟨61, 0, 1, 0⟩, ⟨6, 0, 0, 1⟩, ⟨6, 0, 0, 2⟩] (nr 0) = (0 :: 1 :: (runV [⟨0, 0, 0, a⟩, ⟨1, 0, 0, n⟩, ⟨61, 0, 1, 0⟩, ⟨6, 0, 0, 1⟩, ⟨6, 0, 0, 2⟩] (nr 0) 3 2 ⟨a, n, fun _ => 0, 0⟩).1, (runV [⟨0, 0, 0, a⟩, ⟨1, 0, 0, n⟩, ⟨61, 0, 1, 0⟩, ⟨6, 0, 0, 1⟩, ⟨6, 0, 0, 2⟩] (nr 0) 3 2 ⟨a, n, fun _ => 0, 0⟩).2) := by kernel_rfl
  have e2 : nextV 5 (nr 0) ⟨61, 0, 1, 0⟩ 2 ⟨a, n, fun _ => 0, 0⟩ = (2 + 1 + (if holdsV 53 a n = true then 0 else 1), ⟨a, n, fun _ => 0, 0⟩) := by kernel_rfl
  have e3 : runV [⟨0, 0, 0, a⟩, ⟨1, 0, 0, n⟩, ⟨61, 0, 1, 0⟩, ⟨6, 0, 0, 1⟩, ⟨6, 0, 0, 2⟩] (nr 0) 3 2 ⟨a, n, fun _ => 0, 0⟩ = (2 :: (runV [⟨0, 0, 0, a⟩, ⟨1, 0, 0, n⟩, ⟨61, 0, 1, 0⟩, ⟨6, 0, 0, 1⟩, ⟨6, 0, 0, 2⟩] (nr 0) 2 (nextV 5 (nr 0) ⟨61, 0, 1, 0⟩ 2 ⟨a, n, fun _ => 0, 0⟩).1.toNat (nextV 5 (nr 0) ⟨61, 0, 1, 0⟩ 2 ⟨a, n, fun _ => 0, 0⟩).2).1, (runV [⟨0, 0, 0, a⟩, ⟨1, 0, 0, n⟩, ⟨61, 0, 1, 0⟩, ⟨6, 0, 0, 1⟩, ⟨6, 0, 0, 2⟩] (nr 0) 2 (nextV 5 (nr 0) ⟨61, 0, 1, 0⟩ 2 ⟨a, n, fun _ => 0, 0⟩).1.toNat (nextV 5 (nr 0) ⟨61, 0, 1, 0⟩ 2 ⟨a, n, fun _ => 0, 0⟩).2).2) := by kernel_rfl
  rw [e1, e3, e2, h]
  show _ = _
  kernel_rfl
theorem hold_53_false (a n : Int) (h : holdsV 53 a n = false) : ansV [⟨0, 0, 0, a⟩, ⟨53, 0, 1, n⟩, ⟨6, 0, 0, 1⟩, ⟨6, 0, 0, 2⟩] (nr 0) = 2 ∧ errV [⟨0, 0, 0, a⟩, ⟨53, 0, 1, n⟩, ⟨6, 0, 0, 1⟩, ⟨6, 0, 0, 2⟩] = 0 := by
  have e0 : errV [⟨0, 0, 0, a⟩, ⟨53, 0, 1, n⟩, ⟨6, 0, 0, 1⟩, ⟨6, 0, 0, 2⟩] = 0 := by kernel_rfl
  refine ⟨?_, e0⟩
  unfold ansV
  rw [if_pos e0]
  have e1 : allV [⟨0, 0, 0, a⟩, ⟨53, 0, 1, n⟩, ⟨6, 0, 0, 1⟩, ⟨6, 0, 0, 2⟩] (nr 0) = (0 :: (runV [⟨0, 0, 0, a⟩, ⟨53, 0, 1, n⟩, ⟨6, 0, 0, 1⟩, ⟨6, 0, 0, 2⟩] (nr 0) 3 1 ⟨a, 0, fun _ => 0, 0⟩).1, (runV [⟨0, 0, 0, a⟩, ⟨53, 0, 1, n⟩, ⟨6, 0, 0, 1⟩, ⟨6, 0, 0, 2⟩] (nr 0) 3 1 ⟨a, 0, fun _ => 0, 0⟩).2) := by kernel_rfl
  have e2 : nextV 4 (nr 0) ⟨53, 0, 1, n⟩ 1 ⟨a, 0, fun _ => 0, 0⟩ = (1 + 1 + (if holdsV 53 a n = true then 0 else 1), ⟨a, 0, fun _ => 0, 0⟩) := by kernel_rfl
  have e3 : runV [⟨0, 0, 0, a⟩, ⟨53, 0, 1, n⟩, ⟨6, 0, 0, 1⟩, ⟨6, 0, 0, 2⟩] (nr 0) 3 1 ⟨a, 0, fun _ => 0, 0⟩ = (1 :: (runV [⟨0, 0, 0, a⟩, ⟨53, 0, 1, n⟩, ⟨6, 0, 0, 1⟩, ⟨6, 0, 0, 2⟩] (nr 0) 2 (nextV 4 (nr 0) ⟨53, 0, 1, n⟩ 1 ⟨a, 0, fun _ => 0, 0⟩).1.toNat (nextV 4 (nr 0) ⟨53, 0, 1, n⟩ 1 ⟨a, 0, fun _ => 0, 0⟩).2).1, (runV [⟨0, 0, 0, a⟩, ⟨53, 0, 1, n⟩, ⟨6, 0, 0, 1⟩, ⟨6, 0, 0, 2⟩] (nr 0) 2 (nextV 4 (nr 0) ⟨53, 0, 1, n⟩ 1 ⟨a, 0, fun _ => 0, 0⟩).1.toNat (nextV 4 (nr 0) ⟨53, 0, 1, n⟩ 1 ⟨a, 0, fun _ => 0, 0⟩).2).2) := by kernel_rfl
  rw [e1, e3, e2, h]
  show _ = _
  kernel_rfl
theorem holdX_53_false (a n : Int) (h : holdsV 53 a n = false) : ansV [⟨0, 0, 0, a⟩, ⟨1, 0, 0, n⟩, ⟨61, 0, 1, 0⟩, ⟨6, 0, 0, 1⟩, ⟨6, 0, 0, 2⟩] (nr 0) = 2 ∧ errV [⟨0, 0, 0, a⟩, ⟨1, 0, 0, n⟩, ⟨61, 0, 1, 0⟩, ⟨6, 0, 0, 1⟩, ⟨6, 0, 0, 2⟩] = 0 := by
  have e0 : errV [⟨0, 0, 0, a⟩, ⟨1, 0, 0, n⟩, ⟨61, 0, 1, 0⟩, ⟨6, 0, 0, 1⟩, ⟨6, 0, 0, 2⟩] = 0 := by kernel_rfl
  refine ⟨?_, e0⟩
  unfold ansV
  rw [if_pos e0]
  have e1 : allV [⟨0, 0, 0, a⟩, ⟨1, 0, 0, n⟩, ⟨61, 0, 1, 0⟩, ⟨6, 0, 0, 1⟩, ⟨6, 0, 0, 2⟩] (nr 0) = (0 :: 1 :: (runV [⟨0, 0, 0, a⟩, ⟨1, 0, 0, n⟩, ⟨61, 0, 1, 0⟩, ⟨6, 0, 0, 1⟩, ⟨6, 0, 0, 2⟩] (nr 0) 3 2 ⟨a, n, fun _ => 0, 0⟩).1, (runV [⟨0, 0, 0, a⟩, ⟨1, 0, 0, n⟩, ⟨61, 0, 1, 0⟩, ⟨6, 0, 0, 1⟩, ⟨6, 0, 0, 2⟩] (nr 0) 3 2 ⟨a, n, fun _ => 0, 0⟩).2) := by kernel_rfl
  have e2 : nextV 5 (nr 0) ⟨61, 0, 1, 0⟩ 2 ⟨a, n, fun _ => 0, 0⟩ = (2 + 1 + (if holdsV 53 a n = true then 0 else 1), ⟨a, n, fun _ => 0, 0⟩) := by kernel_rfl
  have e3 : runV [⟨0, 0, 0, a⟩, ⟨1, 0, 0, n⟩, ⟨61, 0, 1, 0⟩, ⟨6, 0, 0, 1⟩, ⟨6, 0, 0, 2⟩] (nr 0) 3 2 ⟨a, n, fun _ => 0, 0⟩ = (2 :: (runV [⟨0, 0, 0, a⟩, ⟨1, 0, 0, n⟩, ⟨61, 0, 1, 0⟩, ⟨6, 0, 0, 1⟩, ⟨6, 0, 0, 2⟩] (nr 0) 2 (nextV 5 (nr 0) ⟨61, 0, 1, 0⟩ 2 ⟨a, n, fun _ => 0, 0⟩).1.toNat (nextV 5 (nr 0) ⟨61, 0, 1, 0⟩ 2 ⟨a, n, fun _ => 0, 0⟩).2).1, (runV [⟨0, 0, 0, a⟩, ⟨1, 0, 0, n⟩, ⟨61, 0, 1, 0⟩, ⟨6, 0, 0, 1⟩, ⟨6, 0, 0, 2⟩] (nr 0) 2 (nextV 5 (nr 0) ⟨61, 0, 1, 0⟩ 2 ⟨a, n, fun _ => 0, 0⟩).1.toNat (nextV 5 (nr 0) ⟨61, 0, 1, 0⟩ 2 ⟨a, n, fun _ => 0, 0⟩).2).2) := by kernel_rfl
  rw [e1, e3, e2, h]
  show _ = _
  kernel_rfl
theorem or8_53 : bits .or .u16 53 8 = 61 := by kernel_rfl

theorem hold_69_true (a n : Int) (h : holdsV 69 a n = true) : ansV [⟨0, 0, 0, a⟩, ⟨69, 0, 1, n⟩, ⟨6, 0, 0, 1⟩, ⟨6, 0, 0, 2⟩] (nr 0) = 1 ∧ errV [⟨0, 0, 0, a⟩, ⟨69, 0, 1, n⟩, ⟨6, 0, 0, 1⟩, ⟨6, 0, 0, 2⟩] = 0 := by
  have e0 : errV [⟨0, 0, 0, a⟩, ⟨69, 0, 1, n⟩, ⟨6, 0, 0, 1⟩, ⟨6, 0, 0, 2⟩] = 0 := by kernel_rfl
  refine ⟨?_, e0⟩
  unfold ansV
  rw [if_pos e0]
  have e1 : allV [⟨0, 0, 0, a⟩, ⟨69, 0, 1, n⟩, ⟨6, 0, 0, 1⟩, ⟨6, 0, 0, 2⟩] (nr 0) = (0 :: (runV [⟨0, 0, 0, a⟩, ⟨69, 0, 1, n⟩, ⟨6, 0, 0, 1⟩, ⟨6, 0, 0, 2⟩] (nr 0) 3 1 ⟨a, 0, fun _ => 0, 0⟩).1, (runV [⟨0, 0, 0, a⟩, ⟨69, 0, 1, n⟩, ⟨6, 0, 0, 1⟩, ⟨6, 0, 0, 2⟩] (nr 0) 3 1 ⟨a, 0, fun _ => 0, 0⟩).2) := by kernel_rfl
  have e2 : nextV 4 (nr 0) ⟨69, 0, 1, n⟩ 1 ⟨a, 0, fun _ => 0, 0⟩ = (1 + 1 + (if holdsV 69 a n = true then 0 else 1), ⟨a, 0, fun _ => 0, 0⟩) := by kernel_rfl
  have e3 : runV [⟨0, 0, 0, a⟩, ⟨69, 0, 1, n⟩, ⟨6, 0, 0, 1⟩, ⟨6, 0, 0, 2⟩] (nr 0) 3 1 ⟨a, 0, fun _ => 0, 0⟩ = (1 :: (runV [⟨0, 0, 0, a⟩, ⟨69, 0, 1, n⟩, ⟨6, 0, 0, 1⟩, ⟨6, 0, 0, 2⟩] (nr 0) 2 (nextV 4 (nr 0) ⟨69, 0, 1, n⟩ 1 ⟨a, 0, fun _ => 0, 0⟩).1.toNat (nextV 4 (nr 0) ⟨69, 0, 1, n⟩ 1 ⟨a, 0, fun _ => 0, 0⟩).2).1, (runV [⟨0, 0, 0, a⟩, ⟨69, 0, 1, n⟩, ⟨6, 0, 0, 1⟩, ⟨6, 0, 0, 2⟩] (nr 0) 2 (nextV 4 (nr 0) ⟨69, 0, 1, n⟩ 1 ⟨a, 0, fun _ => 0, 0⟩).1.toNat (nextV 4 (nr 0) ⟨69, 0, 1, n⟩ 1 ⟨a, 0, fun _ => 0, 0⟩).2).2) := by kernel_rfl
  rw [e1, e3, e2, h]
  show _ = _
  kernel_rfl
theorem holdX_69_true (a n : Int) (h : holdsV 69 a n = true) : ansV [⟨0, 0, 0, a⟩, ⟨1, 0, 0, n⟩, ⟨77, 0, 1, 0⟩, ⟨6, 0, 0, 1⟩, ⟨6, 0, 0, 2⟩] (nr 0) = 1 ∧ errV [⟨0, 0, 0, a⟩, ⟨1, 0, 0, n⟩, ⟨77, 0, 1, 0⟩, ⟨6, 0, 0, 1⟩, ⟨6, 0, 0, 2⟩] = 0 := by
  have e0 : errV [⟨0, 0, 0, a⟩, ⟨1, 0, 0, n⟩, ⟨77, 0, 1, 0⟩, ⟨6, 0, 0, 1⟩, ⟨6, 0, 0, 2⟩] = 0 := by kernel_rfl
  refine ⟨?_, e0⟩
  unfold ansV
  rw [if_pos e0]
  have e1 : allV [⟨0, 0, 0, a⟩, ⟨1, 0, 0, n⟩, ⟨77, 0, 1, 0⟩, ⟨6, 0, 0, 1⟩, ⟨6, 0, 0, 2⟩] (nr 0) = (0 :: 1 :: (runV [⟨0, 0, 0, a⟩, ⟨1, 0, 0, n⟩, ⟨77, 0, 1, 0⟩, ⟨6, 0, 0, 1⟩, ⟨6, 0, 0, 2⟩] (nr 0) 3 2 ⟨a, n, fun _ => 0, 0⟩).1, (runV [⟨0, 0, 0, a⟩, ⟨1, 0, 0, n⟩, ⟨77, 0, 1, 0⟩, ⟨6, 0, 0, 1⟩, ⟨6, 0, 0, 2⟩] (nr 0) 3 2 ⟨a, n, fun _ => 0, 0⟩).2) := by kernel_rfl
  have e2 : nextV 5 (nr 0) ⟨77, 0, 1, 0⟩ 2 ⟨a, n, fun _ => 0, 0⟩ = (2 + 1 + (if holdsV 69 a n = true then 0 else 1), ⟨a, n, fun _ => 0, 0⟩) := by kernel_rfl
  have e3 : runV [⟨0, 0, 0, a⟩, ⟨1, 0, 0, n⟩, ⟨77, 0, 1, 0⟩, ⟨6, 0, 0, 1⟩, ⟨6, 0, 0, 2⟩] (nr 0) 3 2 ⟨a, n, fun _ => 0, 0⟩ = (2 :: (runV [⟨0, 0, 0, a⟩, ⟨1, 0, 0, n⟩, ⟨77, 0, 1, 0⟩, ⟨6, 0, 0, 1⟩, ⟨6, 0, 0, 2⟩] (nr 0) 2 (nextV 5 (nr 0) ⟨77, 0, 1, 0⟩ 2 ⟨a, n, fun _ => 0, 0⟩).1.toNat (nextV 5 (nr 0) ⟨77, 0, 1, 0⟩ 2 ⟨a, n, fun _ => 0, 0⟩).2).1, (runV [⟨0, 0, 0, a⟩, ⟨1, 0, 0, n⟩, ⟨77, 0, 1, 0⟩, ⟨6, 0, 0, 1⟩, ⟨6, 0, 0, 2⟩] (nr 0) 2 (nextV 5 (nr 0) ⟨77, 0, 1, 0⟩ 2 ⟨a, n, fun _ => 0, 0⟩).1.toNat (nextV 5 (nr 0) ⟨77, 0, 1, 0⟩ 2 ⟨a, n, fun _ => 0, 0⟩).2).2) := by kernel_rfl
  rw [e1, e3, e2, h]
  show _ = _
  kernel_rfl
theorem hold_69_false (a n : Int) (h : holdsV 69 a n = false) : ansV [⟨0, 0, 0, a⟩, ⟨69, 0, 1, n⟩, ⟨6, 0, 0, 1⟩, ⟨6, 0, 0, 2⟩] (nr 0) = 2 ∧ errV [⟨0, 0, 0, a⟩, ⟨69, 0, 1, n⟩, ⟨6, 0, 0, 1⟩, ⟨6, 0, 0, 2⟩] = 0 := by
  have e0 : errV [⟨0, 0, 0, a⟩, ⟨69, 0, 1, n⟩, ⟨6, 0, 0, 1⟩, ⟨6, 0, 0, 2⟩] = 0 := by kernel_rfl
  refine ⟨?_, e0⟩
  unfold ansV
  rw [if_pos e0]
  have e1 : allV [⟨0, 0, 0, a⟩, ⟨69, 0, 1, n⟩, ⟨6, 0, 0, 1⟩, ⟨6, 0, 0, 2⟩] (nr 0) = (0 :: (runV [⟨0, 0, 0, a⟩, ⟨69, 0, 1, n⟩, ⟨6, 0, 0, 1⟩, ⟨6, 0, 0, 2⟩] (nr 0) 3 1 ⟨a, 0, fun _ => 0, 0⟩).1, (runV [⟨0, 0, 0, a⟩, ⟨69, 0, 1, n⟩, ⟨6, 0, 0, 1⟩, ⟨6, 0, 0, 2⟩] (nr 0) 3 1 ⟨a, 0, fun _ => 0, 0⟩).2) := by kernel_rfl
  have e2 : nextV 4 (nr 0) ⟨69, 0, 1, n⟩ 1 ⟨a, 0, fun _ => 0, 0⟩ = (1 + 1 + (if holdsV 69 a n = true then 0 else 1), ⟨a, 0, fun _ => 0, 0⟩) := by kernel_rfl
  have e3 : runV [⟨0, 0, 0, a⟩, ⟨69, 0, 1, n⟩, ⟨6, 0, 0, 1⟩, ⟨6, 0, 0, 2⟩] (nr 0) 3 1 ⟨a, 0, fun _ => 0, 0⟩ = (1 :: (runV [⟨0, 0, 0, a⟩, ⟨69, 0, 1, n⟩, ⟨6, 0, 0, 1⟩, ⟨6, 0, 0, 2⟩] (nr 0) 2 (nextV 4 (nr 0) ⟨69, 0, 1, n⟩ 1 ⟨a, 0, fun _ => 0, 0⟩).1.toNat (nextV 4 (nr 0) ⟨69, 0, 1, n⟩ 1 ⟨a, 0, fun _ => 0, 0⟩).2).1, (runV [⟨0, 0, 0, a⟩, ⟨69, 0, 1, n⟩, ⟨6, 0, 0, 1⟩, ⟨6, 0, 0, 2⟩] (nr 0) 2 (nextV 4 (nr 0) ⟨69, 0, 1, n⟩ 1 ⟨a, 0, fun _ => 0, 0⟩).1.toNat (nextV 4 (nr 0) ⟨69, 0, 1, n⟩ 1 ⟨a, 0, fun _ => 0, 0⟩).2).2) := by kernel_rfl
  rw [e1, e3, e2, h]
  show _ = _
  kernel_rfl
theorem holdX_69_false (a n : Int) (h : holdsV 69 a n = false) : ansV [⟨0, 0, 0, a⟩, ⟨1, 0, 0, n⟩, ⟨77, 0, 1, 0⟩, ⟨6, 0, 0, 1⟩, ⟨6, 0, 0, 2⟩] (nr 0) = 2 ∧ errV [⟨0, 0, 0, a⟩, ⟨1, 0, 0, n⟩, ⟨77, 0, 1, 0⟩, ⟨6, 0, 0, 1⟩, ⟨6, 0, 0, 2⟩] = 0 := by
  have e0 : errV [⟨0, 0, 0, a⟩, ⟨1, 0, 0, n⟩, ⟨77, 0, 1, 0⟩, ⟨6, 0, 0, 1⟩, ⟨6, 0, 0, 2⟩] = 0 := by kernel_rfl
  refine ⟨?_, e0⟩
  unfold ansV
  rw [if_pos e0]
  have e1 : allV [⟨0, 0, 0, a⟩, ⟨1, 0, 0, n⟩, ⟨77, 0, 1, 0⟩, ⟨6, 0, 0, 1⟩, ⟨6, 0, 0, 2⟩] (nr 0) = (0 :: 1 :: (runV [⟨0, 0, 0, a⟩, ⟨1, 0, 0, n⟩, ⟨77, 0, 1, 0⟩, ⟨6, 0, 0, 1⟩, ⟨6, 0, 0, 2⟩] (nr 0) 3 2 ⟨a, n, fun _ => 0, 0⟩).1, (runV [⟨0, 0, 0, a⟩, ⟨1, 0, 0, n⟩, ⟨77, 0, 1, 0⟩, ⟨6, 0, 0, 1⟩, ⟨6, 0, 0, 2⟩] (nr 0) 3 2 ⟨a, n, fun _ => 0, 0⟩).2) := by kernel_rfl
  have e2 : nextV 5 (nr 0) ⟨77, 0, 1, 0⟩ 2 ⟨a, n, fun _ => 0, 0⟩ = (2 + 1 + (if holdsV 69 a n = true then 0 else 1), ⟨a, n, fun _ => 0, 0⟩) := by kernel_rfl
  have e3 : runV [⟨0, 0, 0, a⟩, ⟨1, 0, 0, n⟩, ⟨77, 0, 1, 0⟩, ⟨6, 0, 0, 1⟩, ⟨6, 0, 0, 2⟩] (nr 0) 3 2 ⟨a, n, fun _ => 0, 0⟩ = (2 :: (runV [⟨0, 0, 0, a⟩, ⟨1, 0, 0, n⟩, ⟨77, 0, 1, 0⟩, ⟨6, 0, 0, 1⟩, ⟨6, 0, 0, 2⟩] (nr 0) 2 (nextV 5 (nr 0) ⟨77, 0, 1, 0⟩ 2 ⟨a, n, fun _ => 0, 0⟩).1.toNat (nextV 5 (nr 0) ⟨77, 0, 1, 0⟩ 2 ⟨a, n, fun _ => 0, 0⟩).2).1, (runV [⟨0, 0, 0, a⟩, ⟨1, 0, 0, n⟩, ⟨77, 0, 1, 0⟩, ⟨6, 0, 0, 1⟩, ⟨6, 0, 0, 2⟩] (nr 0) 2 (nextV 5 (nr 0) ⟨77, 0, 1, 0⟩ 2 ⟨a, n, fun _ => 0, 0⟩).1.toNat (nextV 5 (nr 0) ⟨77, 0, 1, 0⟩ 2 ⟨a, n, fun _ => 0, 0⟩).2).2) := by kernel_rfl
  rw [e1, e3, e2, h]
  show _ = _
  kernel_rfl
theorem or8_69 : bits .or .u16 69 8 = 77 := by kernel_rfl

end Go.Proofs.Ytinjlneeafopoaa
