/-
  The small functions: what a rune or a byte belongs to.
-/
import Derived.Test.YtcllgpbgikidjaaMem
namespace Go.Proofs.Ytcllgpbgikidjaa
open Go.RowKit

theorem lo_any (n : Nat) (w : World) : Calls Try.prog 39 #[.int .i32 n] w fun e w' => e = .returned (.bool (loN n)) ∧ w' = w := by
  rcases Bool.eq_false_or_eq_true (decide (97 ≤ (n : Int))) with h1 | h1
  · go_enter Try.func39, Try.ntmps39
    go_wp2
    go_ret
    exact ⟨ret_bool (by unfold loN; rw [show decide (97 ≤ n) = true from by simp at h1 ⊢; omega]; simp; omega), rfl⟩
  · go_enter Try.func39, Try.ntmps39
    go_wp2
    go_ret
    exact ⟨ret_bool (by unfold loN; rw [show decide (97 ≤ n) = false from by simp at h1 ⊢; omega]; rfl), rfl⟩

theorem dg_any (n : Nat) (w : World) : Calls Try.prog 44 #[.int .i32 n] w fun e w' => e = .returned (.bool (dgN n)) ∧ w' = w := by
  rcases Bool.eq_false_or_eq_true (decide (48 ≤ (n : Int))) with h1 | h1
  · go_enter Try.func44, Try.ntmps44
    go_wp2
    go_ret
    exact ⟨ret_bool (by unfold dgN; rw [show decide (48 ≤ n) = true from by simp at h1 ⊢; omega]; simp; omega), rfl⟩
  · go_enter Try.func44, Try.ntmps44
    go_wp2
    go_ret
    exact ⟨ret_bool (by unfold dgN; rw [show decide (48 ≤ n) = false from by simp at h1 ⊢; omega]; rfl), rfl⟩

theorem w_any (n : Nat) (w : World) : Calls Try.prog 41 #[.int .i32 n] w fun e w' => e = .returned (.bool (wN n)) ∧ w' = w := by
  rcases Bool.eq_false_or_eq_true (loN n) with h1 | h1
  · go_enter Try.func41, Try.ntmps41
    go_wp2_with (first | (go_at_call 39; refine (lo_any n _).mono ?_; rintro e w' ⟨rfl, rfl⟩; rw [h1]) | (go_at_call 44; refine (dg_any n _).mono ?_; rintro e w' ⟨rfl, rfl⟩))
    go_ret
    exact ⟨ret_bool (by unfold wN; rw [h1]; rfl), rfl⟩
  · rcases Bool.eq_false_or_eq_true (dgN n) with h2 | h2
    · go_enter Try.func41, Try.ntmps41
      go_wp2_with (first | (go_at_call 39; refine (lo_any n _).mono ?_; rintro e w' ⟨rfl, rfl⟩; rw [h1]) | (go_at_call 44; refine (dg_any n _).mono ?_; rintro e w' ⟨rfl, rfl⟩; rw [h2]))
      go_ret
      exact ⟨ret_bool (by unfold wN; rw [h1, h2]; rfl), rfl⟩
    · go_enter Try.func41, Try.ntmps41
      go_wp2_with (first | (go_at_call 39; refine (lo_any n _).mono ?_; rintro e w' ⟨rfl, rfl⟩; rw [h1]) | (go_at_call 44; refine (dg_any n _).mono ?_; rintro e w' ⟨rfl, rfl⟩; rw [h2]))
      go_ret
      refine ⟨ret_bool ?_, rfl⟩
      unfold wN
      rw [h1, h2]
      rcases Bool.eq_false_or_eq_true (n == 95) with h3 | h3 <;> rw [h3] <;> simp at h3 ⊢ <;> omega

theorem ib {n : Nat} {k : Int} {m : Nat} (h : k = m) : ((n : Int) == k) = (n == m) := by
  subst h
  rcases Bool.eq_false_or_eq_true (n == m) with h3 | h3 <;> rw [h3] <;> simp at h3 ⊢ <;> omega

end Go.Proofs.Ytcllgpbgikidjaa
