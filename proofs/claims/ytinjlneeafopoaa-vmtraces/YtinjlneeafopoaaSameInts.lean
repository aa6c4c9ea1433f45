/-
  Whether two rows of numbers are the same: proved.
-/
import Derived.Test.YtinjlneeafopoaaBase
import Derived.WalkSmall
import Derived.Deep.QuietTactic
import Derived.BigQuiet
namespace Go.Proofs.Ytinjlneeafopoaa
open Go.RowKit

set_option maxHeartbeats 1000000 in
theorem same_any (a a' : Option Addr) (len cap cap' : Nat) (l : List Int) (w : World) (hlen : len ≤ 1000000) (h : Ns .i64 w a len l) (h' : Ns .i64 w a' len l) :
    Calls Try.prog 14 #[.slice a len cap, .slice a' len cap'] w fun e w' => e = .returned (.bool true) ∧ Below w.heap.size w w' := by
  have hll := h.1
  go_enter Try.func14, Try.ntmps14
  go_wp2
  go_loopw [5] (fun i wr => ∃ k : Nat, k ≤ len ∧ i = .int .i64 k ∧ Below w.heap.size w wr) (fun i _ => len - (intOf i).toNat)
  case atStart => exact ⟨0, Nat.zero_le _, rfl, Below.refl _ _⟩
  case round =>
    obtain ⟨k, hk, rfl, hbr⟩ := hrel
    by_cases hlt : k < len
    · obtain ⟨b, off, rfl, hc⟩ := (h.below hbr).2 (by omega)
      obtain ⟨b', off', rfl, hc'⟩ := (h'.below hbr).2 (by omega)
      have q := hc k hlt
      have q' := hc' k hlt
      clear hc hc' h h'
      generalize l.getD k 0 = z at *
      have hi1 : (k : Int) < (len : Int) := by omega
      go_wp2_with fail
      go_quiet (fail)
      go_wp2
      go_roundw
      case rel => exact ⟨k + 1, by omega, by go_num, below_drewN hbr _⟩
      case measure => simp [intOf]; omega
    · go_wp2
      go_ret
      exact ⟨rfl, hbr⟩

end Go.Proofs.Ytinjlneeafopoaa
