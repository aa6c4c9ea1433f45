/-
  The act of what a filter answered, by package act: proved of every number.
-/
import Derived.Test.YtcckipimfgmmdaaGreatDoorAKind
namespace Go.Proofs.YtcckipimfgmmdaaGreatDoor.A
open Go.RowKit

set_option maxHeartbeats 800000 in
theorem of_any (v : Int) (w : World) (hv : U32 v) :
    Calls Tryz.prog 58 #[.int .u32 v] w fun e w' => e = .returned (.agg #[.int .i64 (ki v), .int .i64 (ar v)]) ∧ Below w.heap.size w w' := by
  have HK : Hid (∀ W : World, Calls Tryz.prog 98 #[.int .u32 (top v)] W fun e w' => e = .returned (.int .i64 (ki v)) ∧ Below W.heap.size W w') := fun W => kindOf_any (top v) W
  have HH : Hid (∀ W : World, Calls Tryz.prog 56 #[.int .i64 (ki v)] W fun e w' => e = .returned (.bool (hasB (ki v))) ∧ w' = W) := fun W => has_any (ki v) W
  have HB : Hid (∀ o, Below w.heap.size w (w.alloc o)) := fun o => (Below.refl _ _).alloc (Nat.le_refl _) _
  have HZ : Hid (Blk (w.alloc (Obj.cells #[.int .i64 0, .int .i64 0] 36)) w.heap.size 36 [.int .i64 0, .int .i64 0]) := blk_new w _ 36
  have et : bits BinOp.andNot IntKind.u32 v 65535 = top v := top_bits v hv
  have el : bits BinOp.and IntKind.u32 v 65535 = v % 65536 := low_bits v hv
  have ew : IntKind.i64.wrap (v % 65536) = v % 65536 := by rw [IntKind.wrap_i64]; omega
  have HA : Hid (ar v = if hasB (ki v) = true then v % 65536 else 0) := rfl
  clear hv
  generalize ar v = A at *
  generalize hki : ki v = k at *
  clear hki
  generalize v % 65536 = lw at *
  generalize top v = tv at *
  generalize hasB k = p at *
  cases p with
  | true =>
    obtain rfl : A = lw := HA.out
    go_enter Tryz.func58, Tryz.ntmps58
    go_wp2_with (first | (go_at_call 98; refine (HK.out _).mono ?_; rintro e w1 ⟨rfl, b1⟩; have d1 := HZ.out.over b1; have s0 : w1.cell? ⟨w.heap.size, 0, none⟩ = some (.int .i64 0) := d1.cell 0; have s1 : w1.cell? ⟨w.heap.size, 1, none⟩ = some (.int .i64 0) := d1.cell 1; have f0 := d1.f 0; have f1 := d1.f 1; have hlt := d1.lt; have B1 : Hid (Below w.heap.size w w1) := (HB.out _).trans (b1.mono (HB.out _).size); clear d1 b1) | (go_at_call 56; refine (HH.out _).mono ?_; rintro e w2 ⟨rfl, rfl⟩))
    refine bodyPost_ret (v := .agg #[.int .i64 k, .int .i64 A]) (by simp [results, Tryz.results58, go_sem, s0, s1, hlt]) rfl ⟨rfl, ?_⟩
    have q := (B1.out.setCell (p := ⟨w.heap.size, 0, none⟩) (Nat.le_refl _) (.int .i64 k)).setCell (p := ⟨w.heap.size, 1, none⟩) (Nat.le_refl _) (.int .i64 A)
    exact q.alloc q.size _
  | false =>
    obtain rfl : A = 0 := HA.out
    go_enter Tryz.func58, Tryz.ntmps58
    go_wp2_with (first | (go_at_call 98; refine (HK.out _).mono ?_; rintro e w1 ⟨rfl, b1⟩; have d1 := HZ.out.over b1; have s0 : w1.cell? ⟨w.heap.size, 0, none⟩ = some (.int .i64 0) := d1.cell 0; have s1 : w1.cell? ⟨w.heap.size, 1, none⟩ = some (.int .i64 0) := d1.cell 1; have f0 := d1.f 0; have f1 := d1.f 1; have hlt := d1.lt; have B1 : Hid (Below w.heap.size w w1) := (HB.out _).trans (b1.mono (HB.out _).size); clear d1 b1) | (go_at_call 56; refine (HH.out _).mono ?_; rintro e w2 ⟨rfl, rfl⟩))
    refine bodyPost_ret (v := .agg #[.int .i64 k, .int .i64 0]) (by simp [results, Tryz.results58, go_sem, s0, s1, hlt]) rfl ⟨rfl, ?_⟩
    have q := (B1.out.setCell (p := ⟨w.heap.size, 0, none⟩) (Nat.le_refl _) (.int .i64 k)).setCell (p := ⟨w.heap.size, 1, none⟩) (Nat.le_refl _) (.int .i64 0)
    exact q.alloc q.size _

end Go.Proofs.YtcckipimfgmmdaaGreatDoor.A
