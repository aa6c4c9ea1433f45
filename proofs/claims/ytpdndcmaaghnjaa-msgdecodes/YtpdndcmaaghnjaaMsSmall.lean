/-
  What the smallest functions of package msg return, each proved of every argument.
-/
import Derived.Test.YtpdndcmaaghnjaaMsMem
import Derived.WalkSpells
import Derived.WalkLawsBesides
namespace Go.Proofs.Ytpdndcmaaghnjaa
open Go.RowKit

theorem ret_bool {a b : Bool} (h : a = b) : Ending.returned (.bool a) = .returned (.bool b) := by rw [h]
/-- which kinds have an ID, a call, a value. -/
def idQ (k : Int) : Bool := !(k == 1)
def caQ (k : Int) : Bool := k == 2
def vaQ (k : Int) : Bool := k == 4 || (k == 5 || k == 7)
def kiQ (k : Int) : Bool := decide (1 ≤ k ∧ k ≤ 7)

theorem isKind_any (k : Int) (w : World) : Calls Try.prog 20 #[.int .i64 k] w fun e w' => e = .returned (.bool (kiQ k)) ∧ w' = w := by
  unfold kiQ
  by_cases h1 : 1 ≤ k
  · by_cases h2 : k ≤ 7
    · rw [decide_eq_true (And.intro h1 h2)]
      go_enter Try.func20, Try.ntmps20
      go_wp2
      go_ret
      exact ⟨rfl, rfl⟩
    · rw [decide_eq_false (fun h => h2 h.2)]
      go_enter Try.func20, Try.ntmps20
      go_wp2
      go_ret
      exact ⟨rfl, rfl⟩
  · rw [decide_eq_false (fun h => h1 h.1)]
    go_enter Try.func20, Try.ntmps20
    go_wp2
    go_ret
    exact ⟨rfl, rfl⟩
theorem hasID_any (k : Int) (w : World) : Calls Try.prog 33 #[.int .i64 k] w fun e w' => e = .returned (.bool (idQ k)) ∧ w' = w := by
  unfold idQ
  go_enter Try.func33, Try.ntmps33
  go_wp2
  go_ret
  exact ⟨rfl, rfl⟩
theorem hasCall_any (k : Int) (w : World) : Calls Try.prog 29 #[.int .i64 k] w fun e w' => e = .returned (.bool (caQ k)) ∧ w' = w := by
  unfold caQ
  go_enter Try.func29, Try.ntmps29
  go_wp2
  go_ret
  exact ⟨rfl, rfl⟩
theorem hasVal_any (k : Int) (w : World) : Calls Try.prog 34 #[.int .i64 k] w fun e w' => e = .returned (.bool (vaQ k)) ∧ w' = w := by
  unfold vaQ
  cases h4 : k == 4
  · cases h5 : k == 5
    · go_enter Try.func34, Try.ntmps34
      go_wp2
      go_ret
      exact ⟨rfl, rfl⟩
    · go_enter Try.func34, Try.ntmps34
      go_wp2
      go_ret
      exact ⟨rfl, rfl⟩
  · go_enter Try.func34, Try.ntmps34
    go_wp2
    go_ret
    exact ⟨rfl, rfl⟩

end Go.Proofs.Ytpdndcmaaghnjaa
