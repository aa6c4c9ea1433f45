/-
  The law InsnKinds, walked: true for every code.
-/
import Derived.Test.YtonhkohfogpflaaRefKinds
import Derived.Test.YtonhkohfogpflaaAwake
namespace Go.Proofs.Ytonhkohfogpflaa
open Go.RowKit

set_option maxHeartbeats 400000 in
theorem insnKinds_walk (c : Int) (w : World) (h0 : 0 ≤ c) (h1 : c ≤ 65535) :
    Calls Try.prog 3 #[.int .u16 c] w fun e w' => e = .returned (.bool true) ∧ Below w.heap.size w w' := by
  obtain ⟨e1, e2, _⟩ := known_same c h0 h1
  have HK : Hid (∀ W : World, Calls Try.prog 10 #[.int .u16 c] W fun e w' => e = .returned (.bool (refKnownB c)) ∧ Below W.heap.size W w') := by
    intro W
    rw [← e1]
    exact known_any c W
  have HR : Hid (∀ W : World, Calls Try.prog 11 #[.int .u16 c] W fun e w' => e = .returned (.bool (refKnownB c)) ∧ Below W.heap.size W w') := fun W => refKnown_any c W h0 h1
  have HJ : Hid (∀ W : World, Calls Try.prog 12 #[.int .u16 c] W fun e w' => e = .returned (.bool (isIn jumpL c)) ∧ w' = W) := by
    intro W
    rw [← e2]
    exact jumps_any c W
  have HS : Hid (∀ W : World, Calls Try.prog 13 #[.int .u16 c] W fun e w' => e = .returned (.bool (isIn jumpL c)) ∧ w' = W) := fun W => refJumps_any c W
  have HE : Hid (∀ W : World, Calls Try.prog 14 #[.int .u16 c] W fun e w' => e = .returned (.bool (isIn endL c)) ∧ w' = W) := fun W => ends_any c W
  have HF : Hid (∀ W : World, Calls Try.prog 15 #[.int .u16 c] W fun e w' => e = .returned (.bool (isIn endL c)) ∧ w' = W) := fun W => refEnds_any c W
  clear e1 e2 h0 h1
  generalize refKnownB c = p at *
  generalize isIn jumpL c = q at *
  generalize isIn endL c = r at *
  go_enter Try.func3, Try.ntmps3
  go_wp2_with (first | (go_at_call 9; refine (awake_any _).mono ?_; rintro e w1 ⟨rfl, b1⟩) | (go_at_call 10; refine (HK.out _).mono ?_; rintro e w2 ⟨rfl, b2⟩) | (go_at_call 11; refine (HR.out _).mono ?_; rintro e w3 ⟨rfl, b3⟩) | (go_at_call 12; refine (HJ.out _).mono ?_; rintro e w4 ⟨rfl, rfl⟩) | (go_at_call 13; refine (HS.out _).mono ?_; rintro e w5 ⟨rfl, rfl⟩) | (go_at_call 14; refine (HE.out _).mono ?_; rintro e w6 ⟨rfl, rfl⟩) | (go_at_call 15; refine (HF.out _).mono ?_; rintro e w7 ⟨rfl, rfl⟩))
  go_ret
  have b12 := b1.trans (b2.mono b1.size)
  exact ⟨by simp, b12.trans (b3.mono b12.size)⟩

end Go.Proofs.Ytonhkohfogpflaa
