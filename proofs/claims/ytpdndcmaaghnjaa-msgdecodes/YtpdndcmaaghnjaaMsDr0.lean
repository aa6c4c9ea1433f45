/-
  The message of bytes, by the document: what its parts come to.
-/
import Derived.Test.YtpdndcmaaghnjaaMsRrG
import Derived.Test.YtpdndcmaaghnjaaDRefOf
import Derived.Test.YtpdndcmaaghnjaaKTake
import Derived.Test.YtpdndcmaaghnjaaLate
import Derived.Deep.DeepCutAuto
import Derived.Laws.CopyOwn
namespace Go.Proofs.Ytpdndcmaaghnjaa
open Go.RowKit
open D (Da Blk)
open K (numOf textF)

theorem sizeOf_b (W : World) : (sizeOf (Try.prog.elem 30)).run Try.prog W = .ok 1 W := by
  rw [show Try.prog.elem 30 = 5 from by kernel_rfl]
  exact Try.sizeOf5 W
theorem under_B : Try.prog.underlying 30 = some (.slice (Try.prog.elem 30)) := by kernel_rfl
/-- a slice cut from below. -/
theorem cut_low1 (b off len cap n : Nat) (h1 : n ≤ len) (h2 : cap ≠ n) (W : World) : (Instr.sliceAt 30 (.slice (some ⟨b, off, none⟩) len cap) (some (.int .i64 n)) none none).run Try.prog W = .ok (.slice (some ⟨b, off + n, none⟩) (len - n) (cap - n)) W := by
  rw [run_sliceAt_slice W 30 _ _ _ _ under_B, run_slice_l W 30 _ _ _ under_B .i64 n (by omega) (by omega), sizeOf_b]
  simp only [Result.andThen_ok, sliced, Int.toNat_natCast]
  rw [if_neg h2, Nat.mul_one, Option.map_some, Addr.add_mid]
/-- a slice cut on both sides. -/
theorem cut_both (b off len cap : Nat) (h1 : 82 ≤ cap) (W : World) : (Instr.sliceAt 30 (.slice (some ⟨b, off, none⟩) len cap) (some (.int .i64 18)) (some (.int .i64 82)) none).run Try.prog W = .ok (.slice (some ⟨b, off + 18, none⟩) 64 (cap - 18)) W := by
  rw [run_sliceAt_slice W 30 _ _ _ _ under_B, run_slice_lh W 30 _ _ _ under_B .i64 .i64 18 82 (by decide) (by decide) (by omega), sizeOf_b]
  simp only [Result.andThen_ok, sliced]
  rw [if_neg (by show cap ≠ 18; omega)]
  rfl
/-- bytes from a place on stand. -/
theorem bs_from {w X : World} {b off len : Nat} {l : List Int} (hb : K.Bs w (some ⟨b, off, none⟩) len l) (hX : Below w.heap.size w X) (n m : Nat) (h : n + m ≤ len) : K.Bs X (some ⟨b, off + n, none⟩) m ((l.drop n).take m) := (hb.below hX).sub n m h
theorem bs_tail {w X : World} {b off len : Nat} {l : List Int} (hb : K.Bs w (some ⟨b, off, none⟩) len l) (hX : Below w.heap.size w X) (n : Nat) (h : n ≤ len) : K.Bs X (some ⟨b, off + n, none⟩) (len - n) (l.drop n) := by
  have := bs_from hb hX n (len - n) (by omega)
  rw [List.take_of_length_le (by rw [List.length_drop, hb.1]; exact Nat.le_refl _)] at this
  exact this
theorem take_at {w : World} {b off len cap : Nat} {l : List Int} (hb : K.Bs w (some ⟨b, off, none⟩) len l) (n : Nat) (h : n + 8 ≤ len) (X : World) (hX : Below w.heap.size w X) : Calls Try.prog 24 #[.slice (some ⟨b, off + n, none⟩) (len - n) (cap - n), .int .i64 8] X fun e w' => e = .returned (.tuple #[.int .u64 (numOf ((l.drop n).take 8)), .int .i64 0]) ∧ w' = X :=
  K.take_any _ (len - n) (cap - n) 8 (l.drop n) X (by decide) (by decide) (by omega) (bs_tail hb hX n (by omega))
theorem cell_at {w X : World} {b off len : Nat} {l : List Int} (hb : K.Bs w (some ⟨b, off, none⟩) len l) (hX : Below w.heap.size w X) (n : Nat) (h : n < len) : X.cell? ⟨b, off + n, none⟩ = some (.int .u8 (l.getD n 0)) := by
  obtain ⟨_, _, e, hc⟩ := (hb.below hX).2.2 (by omega)
  cases e
  exact hc n h

/-- the tails' answers. -/
theorem tell_long {k : Int} {l : List Int} (hh : l.head? = some k) (hk : 1 ≤ k ∧ k ≤ 7) (hb : D.Byt l) (h1 : need k ≤ l.length) (h2 : size k l < l.length) : decM l = (Mg.zero, 3) := by
  rw [dec_tell (m := rd k l) hh hk hb fun _ _ => rfl]
  unfold tellM endM
  rw [if_neg (show ¬ (l.length < need k ∨ l.length < size k l) by omega), if_pos h2, if_pos (by decide)]
theorem tell_short {k : Int} {l : List Int} (hh : l.head? = some k) (hk : 1 ≤ k ∧ k ≤ 7) (hb : D.Byt l) (h : l.length < need k ∨ l.length < size k l) : decM l = (Mg.zero, 2) := by
  rw [dec_tell (m := rd k l) hh hk hb fun _ _ => rfl]
  unfold tellM endM
  rw [if_pos h, if_pos (by decide)]
theorem tell_just {k : Int} {l : List Int} (hh : l.head? = some k) (hk : 1 ≤ k ∧ k ≤ 7) (hb : D.Byt l) (h1 : need k ≤ l.length) (h2 : size k l = l.length) : decM l = if rightB (rd k l) = true then (rd k l, 0) else (Mg.zero, 1) := by
  rw [dec_tell (m := rd k l) hh hk hb fun _ _ => rfl]
  unfold tellM endM
  rw [if_neg (show ¬ (l.length < need k ∨ l.length < size k l) by omega), if_neg (show ¬ size k l < l.length by omega), if_neg (show ¬ ((0 : Int) ≠ 0) by decide)]

set_option maxRecDepth 8000 in
set_option maxHeartbeats 800000 in
theorem rd_nil (a : Option Addr) (len cap : Nat) (w : World) (hb : K.Bs w a len []) : Calls Try.prog 14 #[.slice a len cap] w fun e w' => e = .returned (.tuple #[Mg.zero.vl, .int .i64 2]) ∧ Below w.heap.size w w' := by
  have hl : len = 0 := hb.1.symm
  subst hl
  have HB : Hid (∀ o, Below w.heap.size w (w.alloc o)) := room1 w
  have hf : Hid (Blk (w.alloc (Obj.cells zero15.toArray 28)) w.heap.size 28 zero15) := D.blk_new w _ 28
  rw [zero_vl]
  clear hb
  unfold zero15 at *
  go_enter Try.func14, Try.ntmps14
  go_wp2_with (refine at_op (.store 28 (.tmp 2) (.tmp 18)) rfl ?_; refine wpList_store_row rfl 28 (.tmp 2) (.tmp 18) rfl w.heap.size #[.int .i64 0, .int .u64 0, .int .u64 0, .int .i64 0, .int .i64 0, .int .u32 0, .int .u32 0, .int .u64 0, .int .u64 0, .int .u64 0, .int .u64 0, .int .u64 0, .int .u64 0, .int .u64 0, .string ⟨#[]⟩] rfl rfl 28 _ hf.out size15 rfl one15 ?_)
  exact bodyPost_ret (results_mg Try.results14 _ _ w.heap.size zero15 _ rfl (hf.out.row zero15.toArray) size15 rfl) rfl ⟨rfl, below_setRow (HB.out _) (Nat.le_refl _) _⟩

set_option maxRecDepth 8000 in
set_option maxHeartbeats 1600000 in
theorem rd_bad (b off len cap : Nat) (k : Int) (w : World) (hlen : 0 < len) (hc : w.cell? ⟨b, off, none⟩ = some (.int .u8 k)) (k0 : 0 ≤ k) (k1 : k ≤ 255) (hk : ¬ (1 ≤ k ∧ k ≤ 7)) : Calls Try.prog 14 #[.slice (some ⟨b, off, none⟩) len cap] w fun e w' => e = .returned (.tuple #[Mg.zero.vl, .int .i64 3]) ∧ Below w.heap.size w w' := by
  have Z0 := two_blk w zero15
  have hc1 : ∀ o, (w.alloc o).cell? ⟨b, off, none⟩ = some (.int .u8 k) := fun o => by rw [(room1 w o).cell (p := ⟨b, off, none⟩) (World.block_lt_of_cell? w _ hc)]; exact hc
  have c0 := hc1 (Obj.cells zero15.toArray 28)
  have h0 : ((len : Int) == 0) = false := beq_false_of_ne (by omega)
  have hw : IntKind.i64.wrap k = k := by rw [IntKind.wrap_i64]; omega
  rw [zero_vl]
  clear hc hc1 k1
  by_cases h1 : 7 < k
  · have b1 : decide (k < 1) = false := decide_eq_false (by omega)
    have b2 : decide (7 < k) = true := decide_eq_true h1
    clear hk h1 k0
    unfold zero15 at *
    go_enter Try.func14, Try.ntmps14
    go_upto_region 5 with (refine at_op (.store 28 (.tmp 4) (.tmp 23)) rfl ?_; refine wpList_store_r rfl 28 (.tmp 4) (.tmp 23) rfl (w.heap.size + 1) (Mg.mk k 0 0 0 0 Da.zero []).cells.toArray rfl rfl 28 _ Z0.2.1 Try.size28 rfl (Mg.cells_one _) ?_; intro X0 hX0; have K0 : Mk w w.heap.size (w.heap.size + 1) zero15 (Mg.mk k 0 0 0 0 Da.zero []) X0 := mk_first Z0 hX0; clear hX0 Z0 c0; have d0 : X0.cell? ⟨w.heap.size + 1, 0, none⟩ = some (.int .i64 k) := K0.dst.cell 0)
    go_wp2_with (refine at_op (.store 28 (.tmp 2) (.tmp 32)) rfl ?_; refine wpList_store_row rfl 28 (.tmp 2) (.tmp 32) rfl w.heap.size #[.int .i64 0, .int .u64 0, .int .u64 0, .int .i64 0, .int .i64 0, .int .u32 0, .int .u32 0, .int .u64 0, .int .u64 0, .int .u64 0, .int .u64 0, .int .u64 0, .int .u64 0, .int .u64 0, .string ⟨#[]⟩] rfl rfl 28 _ K0.src size15 rfl one15 ?_)
    exact bodyPost_ret (results_mg Try.results14 _ _ w.heap.size zero15 _ rfl (K0.src.row zero15.toArray) size15 rfl) rfl ⟨rfl, below_setRow K0.b (Nat.le_refl _) _⟩
  · have b1 : decide (k < 1) = true := decide_eq_true (by omega)
    clear hk h1 k0
    unfold zero15 at *
    go_enter Try.func14, Try.ntmps14
    go_upto_region 5 with (refine at_op (.store 28 (.tmp 4) (.tmp 23)) rfl ?_; refine wpList_store_r rfl 28 (.tmp 4) (.tmp 23) rfl (w.heap.size + 1) (Mg.mk k 0 0 0 0 Da.zero []).cells.toArray rfl rfl 28 _ Z0.2.1 Try.size28 rfl (Mg.cells_one _) ?_; intro X0 hX0; have K0 : Mk w w.heap.size (w.heap.size + 1) zero15 (Mg.mk k 0 0 0 0 Da.zero []) X0 := mk_first Z0 hX0; clear hX0 Z0 c0; have d0 : X0.cell? ⟨w.heap.size + 1, 0, none⟩ = some (.int .i64 k) := K0.dst.cell 0)
    go_wp2_with (refine at_op (.store 28 (.tmp 2) (.tmp 32)) rfl ?_; refine wpList_store_row rfl 28 (.tmp 2) (.tmp 32) rfl w.heap.size #[.int .i64 0, .int .u64 0, .int .u64 0, .int .i64 0, .int .i64 0, .int .u32 0, .int .u32 0, .int .u64 0, .int .u64 0, .int .u64 0, .int .u64 0, .int .u64 0, .int .u64 0, .int .u64 0, .string ⟨#[]⟩] rfl rfl 28 _ K0.src size15 rfl one15 ?_)
    exact bodyPost_ret (results_mg Try.results14 _ _ w.heap.size zero15 _ rfl (K0.src.row zero15.toArray) size15 rfl) rfl ⟨rfl, below_setRow K0.b (Nat.le_refl _) _⟩

end Go.Proofs.Ytpdndcmaaghnjaa
