/-
  slices.Sort of numbers no two of which are alike; of none.
-/
import Derived.Test.YtifddbfcongepaaSrt8
namespace Go.Proofs.Ytifddbfcongepaa
open Go.RowKit
open Go.Sort (PermIn SortedIn)

set_option maxHeartbeats 2000000 in
theorem sort_any (g n cap : Nat) (tl : List Value) (d : Array Int) (w : World) (h : Blk w g 31 (cellsA d ++ tl)) (hd : d.size = n) (hn : n ≤ 1000) (hD : Dst 0 n d) :
    Calls Try.prog 25 #[.slice (some ⟨g, 0, none⟩) n cap] w fun e w' => Srd w g 0 n tl d e w' := by
  have HP : Hid (∀ l : Int, Calls Try.prog 26 #[.slice (some ⟨g, 0, none⟩) n cap, .int .i64 0, .int .i64 n, .int .i64 l] w fun e w' => Srd w g 0 n tl d e w') := fun l => pdq_any g n cap tl hn n 0 n l d w (by omega) h hd (Nat.zero_le _) (Nat.le_refl _) hD (.inl rfl)
  have HL : Hid (∀ W, Calls Try.prog 27 #[.int .u64 (n : Int)] W fun e w' => e = .returned (.int .i64 (Lib.bitLen (n : Int).toNat)) ∧ w' = W) := fun W => Try.bits_Len n W (by omega) (by omega)
  clear h hD
  go_enter Try.func25, Try.ntmps25
  go_wp2_with (first | (go_at_call 27; refine (HL.out _).mono ?_; rintro e w1 ⟨rfl, hw⟩; subst w1))
  refine (HP.out _).mono ?_
  rintro e w1 ⟨rfl, hr⟩
  have HR : Hid (∃ d', PermIn 0 n d d' ∧ SortedIn ltZ 0 n d' ∧ Sw w g tl d' w1) := hr
  clear hr
  go_wp2_with fail
  go_end0
  exact ⟨rfl, HR.out⟩

/-- of none. -/
theorem ins_nil (w : World) : Calls Try.prog 28 #[.slice none 0 0, .int .i64 0, .int .i64 0] w fun e w' => e = .returned (.tuple #[]) ∧ w' = w := by
  go_enter Try.func28, Try.ntmps28
  go_wp2
  go_loopw [6] (fun vi wr => vi = .int .i64 1 ∧ wr = w) (fun _ _ => 0)
  case atStart => exact ⟨rfl, rfl⟩
  case round =>
    obtain ⟨rfl, hw⟩ := hrel
    subst hw
    go_wp2_with fail
    go_end0
    exact ⟨rfl, rfl⟩
theorem pdq_nil (l : Int) (w : World) : Calls Try.prog 26 #[.slice none 0 0, .int .i64 0, .int .i64 0, .int .i64 l] w fun e w' => e = .returned (.tuple #[]) ∧ w' = w := by
  have HI : Hid (∀ W, Calls Try.prog 28 #[.slice none 0 0, .int .i64 0, .int .i64 0] W fun e w' => e = .returned (.tuple #[]) ∧ w' = W) := ins_nil
  go_enter Try.func26, Try.ntmps26
  go_wp2_with fail
  go_loopw [1, 2] (fun v v2 wr => v = .int .i64 0 ∧ v2 = .int .i64 0 ∧ wr = w) (fun _ _ _ => 0)
  case atStart => exact ⟨rfl, rfl, rfl⟩
  case round =>
    obtain ⟨rfl, rfl, hw⟩ := hrel
    subst hw
    go_wp2_with fail
    refine (HI.out _).mono ?_
    rintro e w1 ⟨rfl, rfl⟩
    go_wp2_with fail
    (try simp only [Exit.inBlock, Exit.then])
    refine bodyPost_ret (results_none rfl _ _ _) rfl ?_
    exact ⟨rfl, rfl⟩
theorem sort_nil (w : World) : Calls Try.prog 25 #[.slice none 0 0] w fun e w' => e = .returned (.tuple #[]) ∧ w' = w := by
  have HP : Hid (∀ (l : Int) W, Calls Try.prog 26 #[.slice none 0 0, .int .i64 0, .int .i64 0, .int .i64 l] W fun e w' => e = .returned (.tuple #[]) ∧ w' = W) := pdq_nil
  have HL : Hid (∀ W, Calls Try.prog 27 #[.int .u64 0] W fun e w' => e = .returned (.int .i64 (Lib.bitLen (0 : Int).toNat)) ∧ w' = W) := fun W => Try.bits_Len 0 W (by omega) (by omega)
  go_enter Try.func25, Try.ntmps25
  go_wp2_with (first | (go_at_call 27; refine (HL.out _).mono ?_; rintro e w1 ⟨rfl, rfl⟩))
  refine (HP.out _ _).mono ?_
  rintro e w1 ⟨rfl, rfl⟩
  go_wp2_with fail
  go_end0
  exact ⟨rfl, rfl⟩

end Go.Proofs.Ytifddbfcongepaa
