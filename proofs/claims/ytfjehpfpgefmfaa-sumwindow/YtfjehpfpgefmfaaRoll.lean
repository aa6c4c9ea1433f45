/-
  What the two ways to roll a window on return, each proved of every sum, size and pair of bytes.
-/
import Derived.Test.YtfjehpfpgefmfaaLeaf
namespace Go.Proofs.Ytfjehpfpgefmfaa
open Go.RowKit

/-- the window's size, as far as it is known. -/
def winS (n : Int) : Int := if 0 ≤ n ∧ n ≤ 65520 then n else 0
/-- a window that goes on by a byte. -/
def rollS (s n o i : Int) : Int :=
  joinS ((lowOf s + i - o) % 65521, (highOf s + (lowOf s + i - o) % 65521 - 1 - winS n * o) % 65521)

theorem winS_bd (n : Int) : 0 ≤ winS n ∧ winS n ≤ 65520 := by unfold winS; split <;> omega

set_option maxHeartbeats 400000 in
theorem window_any (n : Int) (w : World) :
    Calls Try.prog 18 #[.int .i64 n] w fun e w' => e = .returned (.int .u32 (winS n)) ∧ w' = w := by
  by_cases h0 : 0 ≤ n
  · by_cases h1 : n ≤ 65520
    · refine (window_in n w h0 h1).mono ?_
      rintro e w' ⟨rfl, rfl⟩
      exact ⟨ret_int (by unfold winS; rw [if_pos ⟨h0, h1⟩]), rfl⟩
    · go_enter Try.func18, Try.ntmps18
      go_wp2
      go_ret
      exact ⟨ret_int (by unfold winS; rw [if_neg (by omega)]), rfl⟩
  · go_enter Try.func18, Try.ntmps18
    go_wp2
    go_ret
    exact ⟨ret_int (by unfold winS; rw [if_neg (by omega)]), rfl⟩

theorem roll_bd (a b : Int) (h0 : 0 ≤ a) (h1 : a ≤ 65520) (h2 : 0 ≤ b) (h3 : b ≤ 255) : 0 ≤ a * b ∧ a * b ≤ 16707600 := by
  refine ⟨Int.mul_nonneg h0 h2, ?_⟩
  have := Int.mul_le_mul h1 h3 h2 (by omega : (0 : Int) ≤ 65520)
  omega

set_option maxHeartbeats 400000 in
theorem roll_any (s n o i : Int) (w : World) (h0 : 0 ≤ s) (h1 : s ≤ 4294967295) (o0 : 0 ≤ o) (o1 : o ≤ 255) (i0 : 0 ≤ i) (i1 : i ≤ 255) :
    Calls Try.prog 14 #[.int .u32 s, .int .i64 n, .int .u8 o, .int .u8 i] w fun e w' => e = .returned (.int .u32 (rollS s n o i)) ∧ w' = w := by
  obtain ⟨n0, n1⟩ := winS_bd n
  obtain ⟨m0, m1⟩ := roll_bd (winS n) o n0 n1 o0 o1
  have os := okS_start s
  unfold okS at os
  simp only at os
  obtain ⟨p1, p2, p3, p4⟩ := os
  have HR : Hid (rollS s n o i = joinS ((lowOf s + i - o) % 65521, (highOf s + (lowOf s + i - o) % 65521 - 1 - winS n * o) % 65521)) := rfl
  go_enter Try.func14, Try.ntmps14
  go_wp2_with fail
  refine (parts_any s _ h0 h1).mono ?_
  rintro e w' ⟨rfl, rfl⟩
  generalize lowOf s = x at *
  generalize highOf s = y at *
  go_wp2_with fail
  refine (window_any n _).mono ?_
  rintro e w' ⟨rfl, rfl⟩
  generalize winS n = k at *
  go_wp2_with fail
  refine (whole_any _ _ _ (by omega) (by omega) (by omega) (by omega)).mono ?_
  rintro e w' ⟨rfl, rfl⟩
  go_wp2
  go_ret
  exact ⟨ret_int (by rw [HR.out]; unfold joinS; generalize k * o = t at *; simp only; omega), rfl⟩

set_option maxHeartbeats 400000 in
theorem refroll_in (s n o i : Int) (w : World) (h0 : 0 ≤ s) (h1 : s ≤ 4294967295) (o0 : 0 ≤ o) (o1 : o ≤ 255) (i0 : 0 ≤ i) (i1 : i ≤ 255) (n0 : 0 ≤ n) (n1 : n ≤ 65520) :
    Calls Try.prog 15 #[.int .u32 s, .int .i64 n, .int .u8 o, .int .u8 i] w fun e w' => e = .returned (.int .u32 (rollS s n o i)) ∧ w' = w := by
  obtain ⟨m0, m1⟩ := roll_bd n o n0 n1 o0 o1
  have HR : Hid (rollS s n o i = joinS ((lowOf s + i - o) % 65521, (highOf s + (lowOf s + i - o) % 65521 - 1 - n * o) % 65521)) := by unfold rollS winS; rw [if_pos ⟨n0, n1⟩]; exact rfl
  go_enter Try.func15, Try.ntmps15
  go_wp2
  go_ret
  exact ⟨ret_int (by rw [HR.out]; unfold joinS lowOf highOf; generalize n * o = t at *; simp only; omega), rfl⟩

set_option maxHeartbeats 400000 in
theorem refroll_any (s n o i : Int) (w : World) (h0 : 0 ≤ s) (h1 : s ≤ 4294967295) (o0 : 0 ≤ o) (o1 : o ≤ 255) (i0 : 0 ≤ i) (i1 : i ≤ 255) :
    Calls Try.prog 15 #[.int .u32 s, .int .i64 n, .int .u8 o, .int .u8 i] w fun e w' => e = .returned (.int .u32 (rollS s n o i)) ∧ w' = w := by
  by_cases hn : 0 ≤ n ∧ n ≤ 65520
  · exact refroll_in s n o i w h0 h1 o0 o1 i0 i1 hn.1 hn.2
  · have HR : Hid (rollS s n o i = joinS ((lowOf s + i - o) % 65521, (highOf s + (lowOf s + i - o) % 65521 - 1) % 65521)) := by unfold rollS winS; rw [if_neg hn, Int.zero_mul, Int.sub_zero]; exact rfl
    by_cases hz : 0 ≤ n
    · have hz' : 65521 ≤ n := by omega
      clear hn
      go_enter Try.func15, Try.ntmps15
      go_wp2
      go_ret
      exact ⟨ret_int (by rw [HR.out]; unfold joinS lowOf highOf; simp only; omega), rfl⟩
    · clear hn
      go_enter Try.func15, Try.ntmps15
      go_wp2
      go_ret
      exact ⟨ret_int (by rw [HR.out]; unfold joinS lowOf highOf; simp only; omega), rfl⟩

end Go.Proofs.Ytfjehpfpgefmfaa
