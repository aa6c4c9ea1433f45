/-
  Two numbers reckoned, and held against each other, by package vm: proved of every code and number.
-/
import Derived.Test.YtcckipimfgmmdaaGreatDoorVVMath
namespace Go.Proofs.YtcckipimfgmmdaaGreatDoor.V
open Go.RowKit

theorem vmByK_any (c : Int) (w : World) : Calls Tryz.prog 134 #[.int .u16 c] w fun e w' => e = .returned (.int .u16 (kOf c)) ∧ w' = w := by
  go_enter Tryz.func134, Tryz.ntmps134
  go_wp2
  go_ret
  exact ⟨rfl, rfl⟩

set_option maxHeartbeats 400000 in
theorem holds_any (c a n : Int) (w : World) : Calls Tryz.prog 136 #[.int .u16 c, .int .u32 a, .int .u32 n] w fun e w' => e = .returned (.bool (holdsV c a n)) ∧ w' = w := by
  go_enter Tryz.func136, Tryz.ntmps136
  go_wp2
  all_goals (go_ret; exact ⟨ret_bool (by simp [holdsV, *]), rfl⟩)

set_option maxHeartbeats 400000 in
theorem reckon_any (c a n : Int) (w : World) (ha : U32 a) (hn : U32 n) (hz : (c == 52) = true → ¬ n = 0) : Calls Tryz.prog 133 #[.int .u16 c, .int .u32 a, .int .u32 n] w fun e w' => e = .returned (.int .u32 (reckV c a n)) ∧ w' = w := by
  obtain ⟨a0, a1⟩ := ha
  obtain ⟨n0, n1⟩ := hn
  have hq : a.tdiv n % 4294967296 = a / n := by
    rw [Int.tdiv_eq_ediv_of_nonneg a0]
    have h1 : 0 ≤ a / n := Int.ediv_nonneg a0 n0
    have h2 : a / n ≤ a := Int.ediv_le_self n a0
    omega
  go_enter Tryz.func133, Tryz.ntmps133
  go_wp2
  all_goals (go_ret; exact ⟨ret_int (by simp [reckV, *]), rfl⟩)

end Go.Proofs.YtcckipimfgmmdaaGreatDoor.V
