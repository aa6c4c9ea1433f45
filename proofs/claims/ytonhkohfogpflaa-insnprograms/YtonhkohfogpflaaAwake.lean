/-
  The small question that each law asks first comes out true, and turns nothing that was there.
-/
import Derived.Test.YtonhkohfogpflaaLay
namespace Go.Proofs.Ytonhkohfogpflaa
open Go.RowKit

set_option maxHeartbeats 400000 in
theorem awake_any (w : World) :
    Calls Try.prog 9 #[] w fun e w' => e = .returned (.bool true) ∧ Below w.heap.size w w' := by
  have HE : Hid (∀ W : World, Calls Try.prog 18 #[.agg #[.int .u16 21, .int .u8 1, .int .u8 2, .int .u32 258]] W fun e w' => Below W.heap.size W w' ∧ ∃ v', e = .returned v' ∧ w'.ownsRow W.heap.size 5 1 v' 8 (cellsB [21, 0, 1, 2, 2, 1, 0, 0])) := by
    intro W
    refine (encode_any ⟨21, 1, 2, 258⟩ W (by unfold In.ok; decide)).mono ?_
    rintro e w2 ⟨hb, v, rfl, ho⟩
    exact ⟨hb, v, rfl, ho⟩
  have HQ : Hid (Byt [21, 0, 1, 2, 2, 1, 0, 0]) := by unfold Hid Byt; decide
  go_enter Try.func9, Try.ntmps9
  go_wp2_with fail
  refine (HE.out w).mono ?_
  rintro e w2 ⟨hb2, v, rfl, ho⟩
  obtain ⟨a, cap, rfl, hbs, _⟩ := owns_bs ho HQ.out
  have hcv := run_text hbs cap
  clear hbs ho
  have hq : strOfNums [21, 0, 1, 2, 2, 1, 0, 0] = ⟨#[21, 0, 1, 2, 2, 1, 0, 0]⟩ := rfl
  go_wp2
  go_ret
  exact ⟨rfl, hb2⟩

end Go.Proofs.Ytonhkohfogpflaa
