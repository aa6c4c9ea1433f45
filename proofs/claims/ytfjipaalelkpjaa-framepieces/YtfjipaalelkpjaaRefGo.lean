/-
  What the document's own sum returns, of every sum and every slice of bytes: the same as byte by byte.
-/
import Derived.Test.YtfjipaalelkpjaaGo
import Derived.Test.YtfjipaalelkpjaaRefMath
namespace Go.Proofs.Ytfjipaalelkpjaa
open Go.RowKit

theorem mul_bd (a b : Int) (h0 : 0 ≤ a) (h1 : a ≤ 65520) (h2 : 0 ≤ b) (h3 : b ≤ 65520) : 0 ≤ a * b ∧ a * b ≤ 4292870400 := by
  refine ⟨Int.mul_nonneg h0 h2, ?_⟩
  have := Int.mul_le_mul h1 h3 h2 (by omega : (0 : Int) ≤ 65520)
  omega

set_option maxHeartbeats 400000 in
theorem refgo_any (s : Int) (a : Option Addr) (len cap : Nat) (l : List Int) (w : World) (h0 : 0 ≤ s) (h1 : s ≤ 4294967295) (hlen : len ≤ 60000) (hb : Bs w a len l) :
    Calls Try.prog 30 #[.int .u32 s, .slice a len cap] w fun e w' => e = .returned (.int .u32 (goS s l)) ∧ w' = w := by
  have hll := hb.1
  have HE : Hid (((highOf s + (len : Int) % 65521 * lowOf s + worthR len l len) % 65521) * 65536 + (lowOf s + allR l len) % 65521 = goS s l) := by
    have := ref_end (lowOf s) (highOf s) l (by omega) (okS_start s)
    rw [hll] at this
    exact this
  go_enter Try.func30, Try.ntmps30
  go_wp2
  go_loop [8, 9, 10] (fun x y i => ∃ k : Nat, k ≤ len ∧ i = .int .i64 k ∧ x = .int .u64 (allR l k) ∧ y = .int .u64 (worthR len l k)) (fun _ _ i => len - (intOf i).toNat)
  case atStart => exact ⟨0, Nat.zero_le _, rfl, rfl, rfl⟩
  case round =>
    obtain ⟨k, hk, rfl, rfl, rfl⟩ := hrel
    obtain ⟨o1, o2⟩ := allR_bd l k
    obtain ⟨o3, o4⟩ := worthR_bd len l k
    by_cases hlt : k < len
    · obtain ⟨b, off, rfl, hc⟩ := hb.2.2 (by omega)
      have hck := hc k hlt
      clear hc
      obtain ⟨y1, y2⟩ := hb.byte k
      have HA : Hid (allR l (k + 1) = (allR l k + l.getD k 0) % 65521) := rfl
      have HW : Hid (worthR len l (k + 1) = (worthR len l k + ((len : Int) - (k : Int)) % 65521 * l.getD k 0) % 65521) := rfl
      generalize l.getD k 0 = c at *
      generalize allR l k = x at *
      generalize worthR len l k = y at *
      obtain ⟨m1, m2⟩ := mul_bd (((len : Int) - (k : Int)) % 65521) c (by omega) (by omega) y1 (by omega)
      go_wp2
      go_round
      case rel => exact ⟨k + 1, by omega, by go_num, by rw [HA.out], by rw [HW.out]⟩
      case measure => simp [intOf]; omega
    · obtain rfl : k = len := by omega
      obtain ⟨m1, m2⟩ := mul_bd ((k : Int) % 65521) (s % 65536 % 65521) (by omega) (by omega) (by omega) (by omega)
      go_wp2
      go_ret
      exact ⟨ret_int (by rw [← HE.out]; unfold highOf lowOf; generalize (k : Int) % 65521 * (s % 65536 % 65521) = t at *; omega), rfl⟩

set_option maxHeartbeats 400000 in
theorem refof_any (a : Option Addr) (len cap : Nat) (l : List Int) (w : World) (hlen : len ≤ 60000) (hb : Bs w a len l) :
    Calls Try.prog 23 #[.slice a len cap] w fun e w' => e = .returned (.int .u32 (goS 1 l)) ∧ w' = w := by
  go_enter Try.func23, Try.ntmps23
  go_wp2_with (go_at_call 30; refine (refgo_any 1 a len cap l _ (by decide) (by decide) hlen hb).mono ?_; rintro e w' ⟨rfl, rfl⟩)
  go_ret
  exact ⟨rfl, rfl⟩

end Go.Proofs.Ytfjipaalelkpjaa
