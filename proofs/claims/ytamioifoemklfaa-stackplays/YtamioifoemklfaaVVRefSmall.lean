/-
  Two numbers reckoned by the document's own words: proved of every code that reckons, and of all numbers.
-/
import Derived.Test.YtamioifoemklfaaVVSmall
namespace Go.Proofs.Ytamioifoemklfaa.V
open Go.RowKit

/-- a number by so many bits, one by one. -/
def shV (l : Bool) (a : Int) (k : Nat) : Int := if l = true then (a * 2 ^ k) % 4294967296 else a / 2 ^ k

theorem shV_zero (l : Bool) (a : Int) (ha : U32 a) : shV l a 0 = a := by
  unfold shV U32 at *
  cases l <;> simp
  omega

theorem shV_left (a : Int) (k : Nat) : (shV true a k * 2) % 4294967296 = shV true a (k + 1) := by
  unfold shV
  rw [if_pos rfl, if_pos rfl, Int.pow_succ, ← Int.mul_assoc]
  omega

theorem shV_right (a : Int) (k : Nat) : shV false a k / 2 = shV false a (k + 1) := by
  unfold shV
  rw [if_neg (by decide), if_neg (by decide), Int.pow_succ, Int.ediv_ediv_of_nonneg (Int.pow_nonneg (by decide))]

theorem shV_u (l : Bool) (a : Int) (k : Nat) (ha : U32 a) : U32 (shV l a k) := by
  unfold shV U32 at *
  cases l
  · rw [if_neg (by decide)]
    have h1 : (0 : Int) ≤ a / 2 ^ k := Int.ediv_nonneg ha.1 (Int.pow_nonneg (by decide))
    have h2 : a / 2 ^ k ≤ a := Int.ediv_le_self _ ha.1
    omega
  · rw [if_pos rfl]
    omega

set_option maxHeartbeats 400000 in
theorem shift_any (a n : Int) (l : Bool) (w : World) (ha : U32 a) (hn : U32 n) : Calls Try.prog 70 #[.int .u32 a, .int .u32 n, .bool l] w fun e w' => e = .returned (.int .u32 (shV l a (n % 32).toNat)) ∧ w' = w := by
  obtain ⟨n0, n1⟩ := hn
  have HZ : Hid (shV l a 0 = a) := shV_zero l a ha
  have HU : Hid (∀ k, U32 (shV l a k)) := fun k => shV_u l a k ha
  have HL : Hid (∀ k, (shV true a k * 2) % 4294967296 = shV true a (k + 1)) := shV_left a
  have HR : Hid (∀ k, shV false a k / 2 = shV false a (k + 1)) := shV_right a
  obtain ⟨m, hm⟩ : ∃ m : Nat, m = (n % 32).toNat := ⟨_, rfl⟩
  have hm32 : m < 32 := by omega
  have hr : Int.tmod n 32 = (m : Int) := by rw [Int.tmod_eq_emod_of_nonneg n0]; omega
  rw [← hm]
  clear hm ha
  go_enter Try.func70, Try.ntmps70
  go_wp2
  go_loop [0, 7] (fun v i => ∃ k : Nat, k ≤ m ∧ i = .int .u32 k ∧ v = .int .u32 (shV l a k)) (fun _ i => m - (intOf i).toNat)
  case atStart => exact ⟨0, Nat.zero_le _, rfl, by rw [HZ.out]⟩
  case round =>
    obtain ⟨k, hk, rfl, rfl⟩ := hrel
    by_cases hlt : k < m
    · have hlt2 : (k : Int) < (m : Int) := by omega
      cases l with
      | true =>
        go_wp2
        go_round
        case rel => exact ⟨k + 1, by omega, by go_num, by rw [HL.out]⟩
        case measure => simp [intOf] <;> omega
      | false =>
        have hu := HU.out k
        unfold U32 at hu
        have hq : (shV false a k).tdiv 2 % 4294967296 = shV false a (k + 1) := by
          rw [Int.tdiv_eq_ediv_of_nonneg hu.1, ← HR.out]
          omega
        clear hu
        go_wp2
        go_round
        case rel => exact ⟨k + 1, by omega, by go_num, by rw [hq]⟩
        case measure => simp [intOf] <;> omega
    · obtain rfl : k = m := by omega
      have hlt2 : ¬ (k : Int) < (k : Int) := by omega
      go_wp2
      go_ret
      exact ⟨rfl, rfl⟩

set_option maxHeartbeats 800000 in
theorem refReckon_any (c a n : Int) (w : World) (ha : U32 a) (hn : U32 n) (hz : (c == 52) = true → ¬ n = 0) (hc : isIn compL c = true) : Calls Try.prog 52 #[.int .u16 c, .int .u32 a, .int .u32 n] w fun e w' => e = .returned (.int .u32 (reckV c a n)) ∧ w' = w := by
  have HS : Hid (∀ (l : Bool) (W : World), Calls Try.prog 70 #[.int .u32 a, .int .u32 n, .bool l] W fun e w' => e = .returned (.int .u32 (shV l a (n % 32).toNat)) ∧ w' = W) := fun l W => shift_any a n l W ha hn
  have HC : Hid (isIn compL c = true) := hc
  clear hc
  obtain ⟨a0, a1⟩ := ha
  obtain ⟨n0, n1⟩ := hn
  have hq : a.tdiv n % 4294967296 = a / n := by
    rw [Int.tdiv_eq_ediv_of_nonneg a0]
    have h1 : 0 ≤ a / n := Int.ediv_nonneg a0 n0
    have h2 : a / n ≤ a := Int.ediv_le_self n a0
    omega
  go_enter Try.func52, Try.ntmps52
  go_wp2_with (go_at_call 70; refine (HS.out _ _).mono ?_; rintro e w2 ⟨rfl, rfl⟩)
  all_goals (go_ret; refine ⟨ret_int ?_, rfl⟩; have hk := HC.out; clear HS HC; simp [reckV, shV, compL, isIn_cons, isIn_nil, *] at hk ⊢ <;> (intro h; simp_all))

end Go.Proofs.Ytamioifoemklfaa.V
