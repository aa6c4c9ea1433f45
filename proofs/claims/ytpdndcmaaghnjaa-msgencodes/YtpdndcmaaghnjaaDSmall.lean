/-
  Halves of numbers, numbers of halves, and the places of arguments, by package data, proved of every number.
-/
import Derived.Test.YtpdndcmaaghnjaaDSame
import Derived.Laws.Bits64b
import Derived.BigQuiet
namespace Go.Proofs.Ytpdndcmaaghnjaa.D
open Go.RowKit

theorem halves_any (n : Int) (w : World) (h : U64 n) :
    Calls Try.prog 54 #[.int .u64 n] w fun e w' => e = .returned (.tuple #[.int .u32 (lo n), .int .u32 (hi n)]) ∧ w' = w := by
  have HH : Hid (n / 4294967296 % 4294967296 = hi n) := by
    unfold Hid hi
    unfold U64 at h
    omega
  clear h
  go_enter Try.func54, Try.ntmps54
  go_wp2
  go_ret2
  rw [HH.out]
  exact ⟨rfl, rfl⟩

theorem or64 (x y : Int) (hx : U32 x) (hy : U32 y) : bits BinOp.or IntKind.u64 x (y * 4294967296) = both x y := by
  obtain ⟨a0, a1⟩ := hx
  obtain ⟨b0, b1⟩ := hy
  obtain ⟨n, rfl⟩ := Int.eq_ofNat_of_zero_le a0
  obtain ⟨m, rfl⟩ := Int.eq_ofNat_of_zero_le b0
  have e : ((m : Int) * 4294967296) = ((m * 2 ^ 32 : Nat) : Int) := by omega
  rw [e, bits_or_u64_nat n (m * 2 ^ 32) (by omega) (by omega), Nat.or_comm, ← Nat.shiftLeft_eq, ← Nat.shiftLeft_add_eq_or_of_lt (by omega), Nat.shiftLeft_eq]
  unfold both
  omega

theorem whole_any (x y : Int) (w : World) (hx : U32 x) (hy : U32 y) :
    Calls Try.prog 55 #[.int .u32 x, .int .u32 y] w fun e w' => e = .returned (.int .u64 (both x y)) ∧ w' = w := by
  have HV : Hid (bits BinOp.or IntKind.u64 (IntKind.u64.wrap x) (IntKind.u64.wrap (IntKind.u64.wrap y * 4294967296)) = both x y) := by
    unfold Hid
    have h1 := or64 x y hx hy
    unfold U32 at hx hy
    rw [show IntKind.u64.wrap x = x by rw [IntKind.wrap_u64]; omega, show IntKind.u64.wrap y = y by rw [IntKind.wrap_u64]; omega, show IntKind.u64.wrap (y * 4294967296) = y * 4294967296 by rw [IntKind.wrap_u64]; omega]
    exact h1
  clear hx hy
  go_enter Try.func55, Try.ntmps55
  go_wp2
  go_ret
  rw [HV.out]
  exact ⟨rfl, rfl⟩

/-- where an argument's words stand. -/
def pl0 (arg : Int) : Int := if 0 ≤ arg ∧ arg ≤ 5 then 16 + 8 * arg else 0
def pl1 (arg : Int) : Int := if 0 ≤ arg ∧ arg ≤ 5 then 16 + 8 * arg + 4 else 0

theorem pl_in (arg : Int) (h : 0 ≤ arg) (h5 : arg ≤ 5) : pl0 arg = 16 + 8 * arg ∧ pl1 arg = 16 + 8 * arg + 4 := by
  unfold pl0 pl1
  rw [if_pos ⟨h, h5⟩, if_pos ⟨h, h5⟩]
  exact ⟨rfl, rfl⟩
theorem pl_out (arg : Int) (h : arg < 0 ∨ 5 < arg) : pl0 arg = 0 ∧ pl1 arg = 0 := by
  unfold pl0 pl1
  rw [if_neg (by omega), if_neg (by omega)]
  exact ⟨rfl, rfl⟩

end Go.Proofs.Ytpdndcmaaghnjaa.D
