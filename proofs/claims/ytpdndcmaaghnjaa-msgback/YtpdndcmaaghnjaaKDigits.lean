/-
  What the two functions that lay a number's bytes return, each proved of every number and every size from 1 to 8.
-/
import Derived.Test.YtpdndcmaaghnjaaKLeaf
import Derived.Deep.OwnRows
import Derived.WalkMore
namespace Go.Proofs.Ytpdndcmaaghnjaa.K
open Go.RowKit

theorem Try.info5 : (Try.prog.info? 5).map (fun i => (i.zero, i.size, i.bytes)) = some (some (.int .u8 0), 1, 1) := by kernel_rfl

/-- a row that is filled from its end. -/
def filled (n : Int) (size k : Nat) (i : Nat) : Value := .int .u8 (if i < k then 0 else dig n (size - 1 - i))

theorem filled_zero (n : Int) (size i : Nat) (h : i < size) : filled n size size i = .int .u8 0 := by unfold filled; rw [if_pos h]

theorem filled_step (n : Int) (size k : Nat) (hk : k < size) (i : Nat) (c : Int) (hc : c = dig n (size - 1 - k)) : (if i = k then Value.int .u8 c else filled n size (k + 1) i) = filled n size k i := by
  unfold filled
  by_cases h : i = k
  · subst h; rw [if_pos rfl, if_neg (by omega), hc]
  · rw [if_neg h]
    by_cases h2 : i < k
    · rw [if_pos h2, if_pos (by omega)]
    · rw [if_neg h2, if_neg (by omega)]

theorem filled_bs {w : World} {b size : Nat} {n : Int} (h : w.rowIs b 5 size (filled n size 0)) : Bs w (some ⟨b, 0, none⟩) size (digs size n) := by
  refine ⟨digs_length _ _, digs_bd _ _, fun _ => ⟨b, 0, rfl, fun i hi => ?_⟩⟩
  rw [Nat.zero_add, h.cell hi, digs_get _ _ _ hi]
  unfold filled
  rw [if_neg (by omega)]

set_option maxHeartbeats 800000 in
theorem digits_any (n : Int) (size : Nat) (w : World) (h0 : 0 ≤ n) (_h1 : n ≤ 18446744073709551615) (_s1 : 1 ≤ size) (s8 : size ≤ 8) :
    Calls Try.prog 44 #[.int .u64 n, .int .i64 size] w fun e w' => Below w.heap.size w w' ∧
      ((n < pow256 size ∧ e = .returned (.tuple #[.slice (some ⟨w.heap.size, 0, none⟩) size size, .bool true]) ∧ w'.rowIs w.heap.size 5 size (filled n size 0)) ∨
       (pow256 size ≤ n ∧ e = .returned (.tuple #[.slice none 0 0, .bool false]))) := by
  have hmk := run_make_row' (P := Try.prog) 30 5 (.int .u8 0) 1 Try.underlying30 Try.info5 rfl .i64 .i64 size (by omega) (by omega)
  have hr0 : (w.alloc (.cells (madeCells #[.int .u8 0] size) 5)).rowIs w.heap.size 5 size (filled n size size) := (World.rowIs_made w (.int .u8 0) size 5).congr (fun i hi => (filled_zero n size i hi).symm)
  have hb0 : Below w.heap.size w (w.alloc (.cells (madeCells #[.int .u8 0] size) 5)) := (Below.refl _ _).alloc (Nat.le_refl _) _
  go_enter Try.func44, Try.ntmps44
  go_wp2
  go_step3
  go_wp2
  go_step3
  go_wp2
  go_loopw [6, 0, 4] (fun a x b wr => ∃ k : Nat, k ≤ size ∧ a = .int .i64 k ∧ x = .int .u64 (shr (size - k) n) ∧ b = .slice (some ⟨w.heap.size, 0, none⟩) size size ∧ wr.rowIs w.heap.size 5 size (filled n size k) ∧ Below w.heap.size w wr) (fun a _ _ _ => (intOf a).toNat)
  case atStart => exact ⟨size, Nat.le_refl _, rfl, by rw [Nat.sub_self]; rfl, rfl, hr0, hb0⟩
  case round =>
    obtain ⟨k, hk, rfl, rfl, rfl, hrow, hbel⟩ := hrel
    have hsb := shr_bd (size - k) n h0
    by_cases hk0 : 0 < k
    · obtain ⟨j, rfl⟩ : ∃ j, k = j + 1 := ⟨k - 1, by omega⟩
      have hc := hrow.cell (show j < size by omega)
      have hf := hrow.frozen j
      have HX : Hid (shr (size - (j + 1)) n / 256 = shr (size - j) n ∧ shr (size - (j + 1)) n % 256 = dig n (size - 1 - j)) := by
        rw [show size - j = (size - (j + 1)) + 1 from by omega, show size - 1 - j = size - (j + 1) from by omega]
        exact ⟨rfl, rfl⟩
      generalize shr (size - (j + 1)) n = x at *
      go_wp2
      go_roundw
      case rel => exact ⟨j, by omega, by go_num, by rw [HX.out.1], rfl, (hrow.set j _).congr (fun i _ => filled_step n size j (by omega) i _ HX.out.2), hbel.setCell (Nat.le_refl _) _⟩
      case measure => simp [intOf]
    · obtain rfl : k = 0 := by omega
      have HP : Hid (0 < shr (size - 0) n ↔ pow256 size ≤ n) := shr_pos size n h0
      generalize shr (size - 0) n = x at *
      by_cases hx : 0 < x
      · go_wp2
        try rw [Exit.noGoto_ret]
        go_ret2
        exact ⟨hbel, .inr ⟨HP.out.1 hx, rfl⟩⟩
      · go_wp2
        try rw [Exit.noGoto_ret]
        go_ret2
        exact ⟨hbel, .inl ⟨by have := HP.out; omega, rfl, hrow⟩⟩

set_option maxHeartbeats 800000 in
theorem lay_any (n : Int) (size : Nat) (w : World) (h0 : 0 ≤ n) (_h1 : n ≤ 18446744073709551615) (_s1 : 1 ≤ size) (s8 : size ≤ 8) :
    Calls Try.prog 17 #[.int .u64 n, .int .i64 size] w fun e w' => Below w.heap.size w w' ∧
      ((n < pow256 size ∧ e = .returned (.tuple #[.slice (some ⟨w.heap.size, 0, none⟩) size size, .int .i64 0]) ∧ w'.rowIs w.heap.size 5 size (filled n size 0)) ∨
       (pow256 size ≤ n ∧ e = .returned (.tuple #[.slice none 0 0, .int .i64 1]))) := by
  have hmk := run_make_row' (P := Try.prog) 30 5 (.int .u8 0) 1 Try.underlying30 Try.info5 rfl .i64 .i64 size (by omega) (by omega)
  have hr0 : (w.alloc (.cells (madeCells #[.int .u8 0] size) 5)).rowIs w.heap.size 5 size (filled n size size) := (World.rowIs_made w (.int .u8 0) size 5).congr (fun i hi => (filled_zero n size i hi).symm)
  have hb0 : Below w.heap.size w (w.alloc (.cells (madeCells #[.int .u8 0] size) 5)) := (Below.refl _ _).alloc (Nat.le_refl _) _
  go_enter Try.func17, Try.ntmps17
  go_wp2
  go_loopw [7, 0] (fun a x wr => ∃ k : Nat, k ≤ size ∧ a = .int .i64 k ∧ x = .int .u64 (shr k n) ∧ wr.rowIs w.heap.size 5 size (filled n size (size - k)) ∧ Below w.heap.size w wr) (fun a _ _ => size - (intOf a).toNat)
  case atStart => exact ⟨0, Nat.zero_le _, rfl, rfl, hr0, hb0⟩
  case round =>
    obtain ⟨k, hk, rfl, rfl, hrow, hbel⟩ := hrel
    have hsb := shr_bd k n h0
    by_cases hk0 : k < size
    · obtain ⟨j, hj⟩ : ∃ j, size = k + (j + 1) := ⟨size - k - 1, by omega⟩
      rw [show size - k = j + 1 from by omega] at hrow
      have hc := hrow.cell (show j < size by omega)
      have hf := hrow.frozen j
      have HX : Hid (shr k n / 256 = shr (k + 1) n ∧ shr k n % 256 = dig n (size - 1 - j)) := by
        rw [show size - 1 - j = k from by omega]
        exact ⟨rfl, rfl⟩
      have hi : ((size : Int) - 1 - (k : Int)) = ((j : Nat) : Int) := by omega
      generalize shr k n = x at *
      go_wp2
      go_roundw
      case rel => exact ⟨k + 1, by omega, by go_num, by rw [HX.out.1], by rw [show size - (k + 1) = j from by omega]; exact (hrow.set j _).congr (fun i _ => filled_step n size j (by omega) i _ HX.out.2), hbel.setCell (Nat.le_refl _) _⟩
      case measure => simp [intOf]; omega
    · obtain rfl : k = size := by omega
      rw [Nat.sub_self] at hrow
      have HP : Hid (0 < shr k n ↔ pow256 k ≤ n) := shr_pos k n h0
      generalize shr k n = x at *
      by_cases hx : 0 < x
      · go_wp2
        go_ret2
        exact ⟨hbel, .inr ⟨HP.out.1 hx, rfl⟩⟩
      · go_wp2
        go_ret2
        exact ⟨hbel, .inl ⟨by have := HP.out; omega, rfl, hrow⟩⟩

theorem lay_wrong (n size : Int) (w : World) (h : ¬ (1 ≤ size ∧ size ≤ 8)) :
    Calls Try.prog 17 #[.int .u64 n, .int .i64 size] w fun e w' => e = .returned (.tuple #[.slice none 0 0, .int .i64 1]) ∧ w' = w := by
  by_cases h1 : size < 1
  · go_enter Try.func17, Try.ntmps17
    go_wp2
    go_ret2
    exact ⟨rfl, rfl⟩
  · have h2 : 8 < size := by omega
    clear h
    go_enter Try.func17, Try.ntmps17
    go_wp2
    go_ret2
    exact ⟨rfl, rfl⟩

end Go.Proofs.Ytpdndcmaaghnjaa.K
