/-
  slices.Sort of at most twelve numbers; of none.
-/
import Derived.Test.YtlckconhhhllkaaSrt1
import Derived.Test.YtlckconhhhllkaaShelf
import Derived.Deep.DeepCutAuto
namespace Go.Proofs.Ytlckconhhhllkaa
open Go.RowKit
open Go.Sort (PermIn SortedIn)

/-- a part of the row is sorted. -/
def Srd (w : World) (g a b : Nat) (tl : List Value) (d : Array Int) (e : Ending) (w' : World) : Prop :=
  e = .returned (.tuple #[]) ∧ ∃ d', PermIn a b d d' ∧ SortedIn ltZ a b d' ∧ Sw w g tl d' w'

set_option maxRecDepth 8000 in
set_option maxHeartbeats 4000000 in
theorem pdq_few (g n cap : Nat) (tl : List Value) (hn : n ≤ 12) (l : Int) (d : Array Int) (w : World) (h : Blk w g 23 (cellsA d ++ tl)) (hd : d.size = n) :
    Calls Try.prog 45 #[.slice (some ⟨g, 0, none⟩) n cap, .int .i64 0, .int .i64 n, .int .i64 l] w fun e w' => Srd w g 0 n tl d e w' := by
  have HC : Hid (Calls Try.prog 47 #[.slice (some ⟨g, 0, none⟩) n cap, .int .i64 0, .int .i64 n] w fun e w' => e = .returned (.tuple #[]) ∧ Sw w g tl (Go.Sort.insertionSort ltZ d 0 n) w') := ins_any g n cap 0 n tl d w h hd (Nat.zero_le _) (Nat.le_refl _) (by omega)
  have HI : Hid (PermIn 0 n d (Go.Sort.insertionSort ltZ d 0 n) ∧ SortedIn ltZ 0 n (Go.Sort.insertionSort ltZ d 0 n)) := Go.Sort.insertionSort_holds swoZ d 0 n (Nat.zero_le _) (by rw [hd]; exact Nat.le_refl _)
  have hs1 : (n : Int) ≤ 12 := by omega
  clear h hd
  go_enter Try.func45, Try.ntmps45
  go_wp2_with fail
  go_loopw [1, 2] (fun v v2 wr => v = .int .i64 0 ∧ v2 = .int .i64 n ∧ wr = w) (fun _ _ _ => 0)
  case atStart => exact ⟨rfl, rfl, rfl⟩
  case round =>
    obtain ⟨rfl, rfl, hw⟩ := hrel
    subst hw
    go_wp2_with fail
    refine HC.out.mono ?_
    rintro e w1 ⟨rfl, s1⟩
    have S1 : Hid (Sw wr g tl (Go.Sort.insertionSort ltZ d 0 n) w1) := s1
    clear s1
    go_wp2_with fail
    (try simp only [Exit.inBlock, Exit.then])
    refine bodyPost_ret (results_none rfl _ _ _) rfl ?_
    exact ⟨rfl, _, HI.out.1, HI.out.2, S1.out⟩

set_option maxHeartbeats 2000000 in
theorem sort_any (g n cap : Nat) (tl : List Value) (d : Array Int) (w : World) (h : Blk w g 23 (cellsA d ++ tl)) (hd : d.size = n) (hn : n ≤ 12) :
    Calls Try.prog 44 #[.slice (some ⟨g, 0, none⟩) n cap] w fun e w' => Srd w g 0 n tl d e w' := by
  have HP : Hid (∀ l : Int, Calls Try.prog 45 #[.slice (some ⟨g, 0, none⟩) n cap, .int .i64 0, .int .i64 n, .int .i64 l] w fun e w' => Srd w g 0 n tl d e w') := fun l => pdq_few g n cap tl hn l d w h hd
  have HL : Hid (∀ W, Calls Try.prog 46 #[.int .u64 (n : Int)] W fun e w' => e = .returned (.int .i64 (Lib.bitLen (n : Int).toNat)) ∧ w' = W) := fun W => Try.bits_Len n W (by omega) (by omega)
  clear h
  go_enter Try.func44, Try.ntmps44
  go_wp2_with (first | (go_at_call 46; refine (HL.out _).mono ?_; rintro e w1 ⟨rfl, hw⟩; subst w1))
  refine (HP.out _).mono ?_
  rintro e w1 ⟨rfl, hr⟩
  have HR : Hid (∃ d', PermIn 0 n d d' ∧ SortedIn ltZ 0 n d' ∧ Sw w g tl d' w1) := hr
  clear hr
  go_wp2_with fail
  go_end0
  exact ⟨rfl, HR.out⟩

/-- of none. -/
theorem ins_nil (w : World) : Calls Try.prog 47 #[.slice none 0 0, .int .i64 0, .int .i64 0] w fun e w' => e = .returned (.tuple #[]) ∧ w' = w := by
  go_enter Try.func47, Try.ntmps47
  go_wp2
  go_loopw [6] (fun vi wr => vi = .int .i64 1 ∧ wr = w) (fun _ _ => 0)
  case atStart => exact ⟨rfl, rfl⟩
  case round =>
    obtain ⟨rfl, hw⟩ := hrel
    subst hw
    go_wp2_with fail
    go_end0
    exact ⟨rfl, rfl⟩
theorem pdq_nil (l : Int) (w : World) : Calls Try.prog 45 #[.slice none 0 0, .int .i64 0, .int .i64 0, .int .i64 l] w fun e w' => e = .returned (.tuple #[]) ∧ w' = w := by
  have HI : Hid (∀ W, Calls Try.prog 47 #[.slice none 0 0, .int .i64 0, .int .i64 0] W fun e w' => e = .returned (.tuple #[]) ∧ w' = W) := ins_nil
  go_enter Try.func45, Try.ntmps45
  go_wp2_with fail
  go_loopw [1, 2] (fun v v2 wr => v = .int .i64 0 ∧ v2 = .int .i64 0 ∧ wr = w) (fun _ _ _ => 0)
  case atStart => exact ⟨rfl, rfl, rfl⟩
  case round =>
    obtain ⟨rfl, rfl, hw⟩ := hrel
    subst hw
    go_wp2_with fail
    refine (HI.out _).mono ?_
    rintro e w1 ⟨rfl, rfl⟩
    go_wp2_with fail
    (try simp only [Exit.inBlock, Exit.then])
    refine bodyPost_ret (results_none rfl _ _ _) rfl ?_
    exact ⟨rfl, rfl⟩
theorem sort_nil (w : World) : Calls Try.prog 44 #[.slice none 0 0] w fun e w' => e = .returned (.tuple #[]) ∧ w' = w := by
  have HP : Hid (∀ (l : Int) W, Calls Try.prog 45 #[.slice none 0 0, .int .i64 0, .int .i64 0, .int .i64 l] W fun e w' => e = .returned (.tuple #[]) ∧ w' = W) := pdq_nil
  have HL : Hid (∀ W, Calls Try.prog 46 #[.int .u64 0] W fun e w' => e = .returned (.int .i64 (Lib.bitLen (0 : Int).toNat)) ∧ w' = W) := fun W => Try.bits_Len 0 W (by omega) (by omega)
  go_enter Try.func44, Try.ntmps44
  go_wp2_with (first | (go_at_call 46; refine (HL.out _).mono ?_; rintro e w1 ⟨rfl, rfl⟩))
  refine (HP.out _ _).mono ?_
  rintro e w1 ⟨rfl, rfl⟩
  go_wp2_with fail
  go_end0
  exact ⟨rfl, rfl⟩

end Go.Proofs.Ytlckconhhhllkaa
