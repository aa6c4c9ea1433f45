/-
  Halves of numbers, numbers of halves, and the places of arguments, by package data, proved of every number.
-/
import Derived.Test.YtinjlneeafopoaaDMem
import Derived.Laws.Bits64b
import Derived.BigQuiet
namespace Go.Proofs.Ytinjlneeafopoaa
open Go.RowKit

theorem halves_any (n : Int) (w : World) (h : U64 n) :
    Calls Try.prog 61 #[.int .u64 n] w fun e w' => e = .returned (.tuple #[.int .u32 (lo n), .int .u32 (hi n)]) ∧ w' = w := by
  have HH : Hid (n / 4294967296 % 4294967296 = hi n) := by
    unfold Hid hi
    unfold U64 at h
    omega
  clear h
  go_enter Try.func61, Try.ntmps61
  go_wp2
  go_ret2
  rw [HH.out]
  exact ⟨rfl, rfl⟩

end Go.Proofs.Ytinjlneeafopoaa
