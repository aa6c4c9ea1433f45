/-
  The small question that each law asks first comes out true, and turns nothing that was there.
-/
import Derived.Test.YtfdnhdijogphiaaCheck
namespace Go.Proofs.Ytfdnhdijogphiaa
open Go.RowKit

theorem ins_one (w : World) (x : In) (hx : x.ok) : Ins (w.alloc (.cells #[.int .u16 x.c, .int .u8 x.t, .int .u8 x.f, .int .u32 x.k] 36)) (some ⟨w.heap.size, 0, none⟩) 1 [x] := by
  refine ⟨rfl, by intro y hy; simp at hy; subst hy; exact hx, fun _ => ⟨_, _, rfl, fun i y hy => ?_⟩⟩
  match i, hy with
  | 0, hy => cases hy; exact at_new w x

theorem ins_two (w : World) (x y : In) (hx : x.ok) (hy : y.ok) : Ins (w.alloc (.cells #[.int .u16 x.c, .int .u8 x.t, .int .u8 x.f, .int .u32 x.k, .int .u16 y.c, .int .u8 y.t, .int .u8 y.f, .int .u32 y.k] 36)) (some ⟨w.heap.size, 0, none⟩) 2 [x, y] := by
  refine ⟨rfl, by intro z hz; simp at hz; rcases hz with rfl | rfl <;> assumption, fun _ => ⟨_, _, rfl, fun i z hz => ?_⟩⟩
  match i, hz with
  | 0, hz => cases hz; refine ⟨?_, ?_, ?_, ?_⟩ <;> simp
  | 1, hz => cases hz; refine ⟨?_, ?_, ?_, ?_⟩ <;> simp

theorem chk_one : chk [⟨6, 0, 0, 0⟩] = (0, -1) := by decide +kernel
theorem chk_two : chk [⟨32, 0, 0, 2⟩, ⟨6, 0, 0, 0⟩] = (12, 0) := by decide +kernel

set_option maxHeartbeats 400000 in
theorem awake_any (w : World) :
    Calls Try.prog 9 #[] w fun e w' => e = .returned (.bool true) ∧ Below w.heap.size w w' := by
  have o1 : In.ok ⟨6, 0, 0, 0⟩ := by unfold In.ok; decide
  have o2 : In.ok ⟨32, 0, 0, 2⟩ := by unfold In.ok; decide
  have H1 : Hid (∀ W : World, Calls Try.prog 10 #[.slice (some ⟨W.heap.size, 0, none⟩) 1 1] (W.alloc (.cells #[.int .u16 6, .int .u8 0, .int .u8 0, .int .u32 0] 36)) fun e w' => Told (W.alloc (.cells #[.int .u16 6, .int .u8 0, .int .u8 0, .int .u32 0] 36)) w' e (0, -1)) := fun W => chk_one ▸ check_any _ 1 1 _ _ (by unfold maxLen; decide) (ins_one W ⟨6, 0, 0, 0⟩ o1)
  have H2 : Hid (∀ W : World, Calls Try.prog 10 #[.slice (some ⟨W.heap.size, 0, none⟩) 2 2] (W.alloc (.cells #[.int .u16 32, .int .u8 0, .int .u8 0, .int .u32 2, .int .u16 6, .int .u8 0, .int .u8 0, .int .u32 0] 36)) fun e w' => Told (W.alloc (.cells #[.int .u16 32, .int .u8 0, .int .u8 0, .int .u32 2, .int .u16 6, .int .u8 0, .int .u8 0, .int .u32 0] 36)) w' e (12, 0)) := fun W => chk_two ▸ check_any _ 2 2 _ _ (by unfold maxLen; decide) (ins_two W ⟨32, 0, 0, 2⟩ ⟨6, 0, 0, 0⟩ o2 o1)
  clear o1 o2
  go_enter Try.func9, Try.ntmps9
  go_wp2_with fail
  refine (H1.out _).mono ?_
  rintro e w1 ⟨rfl, b1⟩
  go_wp2_with fail
  refine (H2.out _).mono ?_
  rintro e w2 ⟨rfl, b2⟩
  go_wp2
  go_ret
  have c1 : Below w.heap.size w w1 := ((Below.refl _ _).alloc (Nat.le_refl _) _).trans (b1.mono (by rw [size_alloc']; omega))
  have c2 := c1.alloc c1.size (Obj.cells #[.int .u16 32, .int .u8 0, .int .u8 0, .int .u32 2, .int .u16 6, .int .u8 0, .int .u8 0, .int .u32 0] 36)
  exact ⟨rfl, c2.trans (b2.mono c2.size)⟩

end Go.Proofs.Ytfdnhdijogphiaa
