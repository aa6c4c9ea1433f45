/-
  The small functions: what a rune or a byte belongs to.
-/
import Derived.Test.YtcckipimfgmmdaaGreatDoorPMem
namespace Go.Proofs.YtcckipimfgmmdaaGreatDoor.P
open Go.RowKit

theorem lo_any (n : Nat) (w : World) : Calls Tryz.prog 69 #[.int .i32 n] w fun e w' => e = .returned (.bool (loN n)) ∧ w' = w := by
  rcases Bool.eq_false_or_eq_true (decide (97 ≤ (n : Int))) with h1 | h1
  · go_enter Tryz.func69, Tryz.ntmps69
    go_wp2
    go_ret
    exact ⟨ret_bool (by unfold loN; rw [show decide (97 ≤ n) = true from by simp at h1 ⊢; omega]; simp; omega), rfl⟩
  · go_enter Tryz.func69, Tryz.ntmps69
    go_wp2
    go_ret
    exact ⟨ret_bool (by unfold loN; rw [show decide (97 ≤ n) = false from by simp at h1 ⊢; omega]; rfl), rfl⟩

theorem dg_any (n : Nat) (w : World) : Calls Tryz.prog 72 #[.int .i32 n] w fun e w' => e = .returned (.bool (dgN n)) ∧ w' = w := by
  rcases Bool.eq_false_or_eq_true (decide (48 ≤ (n : Int))) with h1 | h1
  · go_enter Tryz.func72, Tryz.ntmps72
    go_wp2
    go_ret
    exact ⟨ret_bool (by unfold dgN; rw [show decide (48 ≤ n) = true from by simp at h1 ⊢; omega]; simp; omega), rfl⟩
  · go_enter Tryz.func72, Tryz.ntmps72
    go_wp2
    go_ret
    exact ⟨ret_bool (by unfold dgN; rw [show decide (48 ≤ n) = false from by simp at h1 ⊢; omega]; rfl), rfl⟩

theorem w_any (n : Nat) (w : World) : Calls Tryz.prog 71 #[.int .i32 n] w fun e w' => e = .returned (.bool (wN n)) ∧ w' = w := by
  rcases Bool.eq_false_or_eq_true (loN n) with h1 | h1
  · go_enter Tryz.func71, Tryz.ntmps71
    go_wp2_with (first | (go_at_call 69; refine (lo_any n _).mono ?_; rintro e w' ⟨rfl, rfl⟩; rw [h1]) | (go_at_call 72; refine (dg_any n _).mono ?_; rintro e w' ⟨rfl, rfl⟩))
    go_ret
    exact ⟨ret_bool (by unfold wN; rw [h1]; rfl), rfl⟩
  · rcases Bool.eq_false_or_eq_true (dgN n) with h2 | h2
    · go_enter Tryz.func71, Tryz.ntmps71
      go_wp2_with (first | (go_at_call 69; refine (lo_any n _).mono ?_; rintro e w' ⟨rfl, rfl⟩; rw [h1]) | (go_at_call 72; refine (dg_any n _).mono ?_; rintro e w' ⟨rfl, rfl⟩; rw [h2]))
      go_ret
      exact ⟨ret_bool (by unfold wN; rw [h1, h2]; rfl), rfl⟩
    · go_enter Tryz.func71, Tryz.ntmps71
      go_wp2_with (first | (go_at_call 69; refine (lo_any n _).mono ?_; rintro e w' ⟨rfl, rfl⟩; rw [h1]) | (go_at_call 72; refine (dg_any n _).mono ?_; rintro e w' ⟨rfl, rfl⟩; rw [h2]))
      go_ret
      refine ⟨ret_bool ?_, rfl⟩
      unfold wN
      rw [h1, h2]
      rcases Bool.eq_false_or_eq_true (n == 95) with h3 | h3 <;> rw [h3] <;> simp at h3 ⊢ <;> omega

theorem no_any (n : Nat) (w : World) : Calls Tryz.prog 42 #[.int .i32 n] w fun e w' => e = .returned (.bool (noN n)) ∧ w' = w := by
  go_enter Tryz.func42, Tryz.ntmps42
  go_wp2
  go_ret
  refine ⟨ret_bool ?_, rfl⟩
  unfold noN
  rcases Bool.eq_false_or_eq_true (n == 10) with h3 | h3 <;> rw [h3] <;> simp at h3 ⊢ <;> omega

theorem ib {n : Nat} {k : Int} {m : Nat} (h : k = m) : ((n : Int) == k) = (n == m) := by
  subst h
  rcases Bool.eq_false_or_eq_true (n == m) with h3 | h3 <;> rw [h3] <;> simp at h3 ⊢ <;> omega

theorem bl_any (n : Nat) (w : World) : Calls Tryz.prog 40 #[.int .i32 n] w fun e w' => e = .returned (.bool (blN n)) ∧ w' = w := by
  have e9 : ((n : Int) == 9) = (n == 9) := ib rfl
  have e10 : ((n : Int) == 10) = (n == 10) := ib rfl
  have e13 : ((n : Int) == 13) = (n == 13) := ib rfl
  have e32 : ((n : Int) == 32) = (n == 32) := ib rfl
  rcases Bool.eq_false_or_eq_true (n == 9) with h1 | h1 <;> rw [h1] at e9
  · go_enter Tryz.func40, Tryz.ntmps40
    go_wp2
    go_ret
    exact ⟨ret_bool (by unfold blN; rw [h1]; rfl), rfl⟩
  · rcases Bool.eq_false_or_eq_true (n == 10) with h2 | h2 <;> rw [h2] at e10
    · go_enter Tryz.func40, Tryz.ntmps40
      go_wp2
      go_ret
      exact ⟨ret_bool (by unfold blN; rw [h1, h2]; rfl), rfl⟩
    · rcases Bool.eq_false_or_eq_true (n == 13) with h3 | h3 <;> rw [h3] at e13
      · go_enter Tryz.func40, Tryz.ntmps40
        go_wp2
        go_ret
        exact ⟨ret_bool (by unfold blN; rw [h1, h2, h3]; rfl), rfl⟩
      · rcases Bool.eq_false_or_eq_true (n == 32) with h4 | h4 <;> rw [h4] at e32
        · go_enter Tryz.func40, Tryz.ntmps40
          go_wp2
          go_ret
          exact ⟨ret_bool (by unfold blN; rw [h1, h2, h3, h4]; rfl), rfl⟩
        · go_enter Tryz.func40, Tryz.ntmps40
          go_wp2
          go_ret
          exact ⟨ret_bool (by unfold blN; rw [h1, h2, h3, h4]; rfl), rfl⟩

end Go.Proofs.YtcckipimfgmmdaaGreatDoor.P
