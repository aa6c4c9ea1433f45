/-
  What an instruction loads, reckons and skips, by package check, proved of every instruction.
-/
import Derived.Test.YtinjlneeafopoaaFault
import Derived.Test.YtinjlneeafopoaaNums
namespace Go.Proofs.Ytinjlneeafopoaa
open Go.RowKit

theorem within_any (s : Int) (n : Nat) (w : World) (h0 : 0 ≤ s) (h1 : s ≤ 4294967295) (hn : n ≤ 1000000) :
    Calls Try.prog 22 #[.int .u32 s, .int .i64 n] w fun e w' => e = .returned (.bool (insB s n)) ∧ w' = w := by
  have e1 : IntKind.u64.wrap s = s := by rw [IntKind.wrap_u64]; omega
  have e2 : IntKind.u64.wrap (n : Int) = n := by rw [IntKind.wrap_u64]; omega
  go_enter Try.func22, Try.ntmps22
  go_wp2
  go_ret
  exact ⟨ret_bool (by unfold insB; rfl), rfl⟩

set_option maxHeartbeats 400000 in
theorem loads_any (x : In) (w : World) (hx : x.ok) :
    Calls Try.prog 29 #[x.val] w fun e w' => e = .returned (.bool (loadsB x.c x.k)) ∧ Below w.heap.size w w' := by
  obtain ⟨c, t, f, k⟩ := x
  obtain ⟨-, -, -, hk⟩ := hx
  have e1 : ∀ o, Below w.heap.size w (w.alloc o) := fun o => (Below.refl _ _).alloc (Nat.le_refl _) _
  unfold In.val
  dsimp only at *
  go_enter Try.func29, Try.ntmps29
  go_wp2
  all_goals (go_ret; exact ⟨ret_bool (by simp [loadsB, cellL, isIn_cons, isIn_nil, *]), e1 _⟩)

set_option maxHeartbeats 400000 in
theorem reck_any (x : In) (w : World) (hx : x.ok) :
    Calls Try.prog 30 #[x.val] w fun e w' => e = .returned (.bool (reckB x.c x.k)) ∧ Below w.heap.size w w' := by
  obtain ⟨c, t, f, k⟩ := x
  obtain ⟨-, -, -, hk⟩ := hx
  have e1 : ∀ o, Below w.heap.size w (w.alloc o) := fun o => (Below.refl _ _).alloc (Nat.le_refl _) _
  unfold In.val
  dsimp only at *
  go_enter Try.func30, Try.ntmps30
  go_wp2
  all_goals (go_ret; exact ⟨ret_bool (by simp [reckB, shiftL, isIn_cons, isIn_nil, *]), e1 _⟩)

end Go.Proofs.Ytinjlneeafopoaa
