/-
  The words of acts and the signs of conditions.
-/
import Derived.Test.YtcllgpbgikidjaaDoorSNum
namespace Go.Proofs.YtcllgpbgikidjaaDoor
open Go.RowKit

/-- the word of a kind; the sign of an op. -/
def wordS (k : Nat) : List UInt8 := [[], [107, 105, 108, 108], [116, 104, 114, 101, 97, 100], [116, 114, 97, 112], [101, 114, 114, 110, 111], [110, 111, 116, 105, 102, 121], [116, 114, 97, 99, 101], [108, 111, 103], [97, 108, 108, 111, 119]].getD k []
def signS (o : Nat) : List UInt8 := [[], [61, 61], [33, 61], [60], [60, 61], [62], [62, 61]].getD o []

theorem eight {k : Int} (h1 : 1 ≤ k) (h8 : k ≤ 8) : k = 1 ∨ k = 2 ∨ k = 3 ∨ k = 4 ∨ k = 5 ∨ k = 6 ∨ k = 7 ∨ k = 8 := by omega
theorem six {k : Int} (h1 : 1 ≤ k) (h8 : k ≤ 6) : k = 1 ∨ k = 2 ∨ k = 3 ∨ k = 4 ∨ k = 5 ∨ k = 6 := by omega

theorem wordOf_any (k : Int) (h1 : 1 ≤ k) (h8 : k ≤ 8) (w : World) : Calls Tryd.prog 108 #[.int .i64 k] w fun e w' => e = .returned (.string (bar (wordS k.toNat))) ∧ Below w.heap.size w w' := by
  rcases eight h1 h8 with rfl | rfl | rfl | rfl | rfl | rfl | rfl | rfl
  all_goals
    go_enter Tryd.func108, Tryd.ntmps108
    go_wp2
    go_ret
    exact ⟨rfl, (Below.refl _ _).alloc (Nat.le_refl _) _⟩

theorem signOf_any (k : Int) (h1 : 1 ≤ k) (h8 : k ≤ 6) (w : World) : Calls Tryd.prog 113 #[.int .i64 k] w fun e w' => e = .returned (.string (bar (signS k.toNat))) ∧ Below w.heap.size w w' := by
  rcases six h1 h8 with rfl | rfl | rfl | rfl | rfl | rfl
  all_goals
    go_enter Tryd.func113, Tryd.ntmps113
    go_wp2
    go_ret
    exact ⟨rfl, (Below.refl _ _).alloc (Nat.le_refl _) _⟩

end Go.Proofs.YtcllgpbgikidjaaDoor
