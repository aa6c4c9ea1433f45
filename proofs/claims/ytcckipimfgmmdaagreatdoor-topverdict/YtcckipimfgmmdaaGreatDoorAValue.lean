/-
  Acts as filters answer them, by package act: proved.
-/
import Derived.Test.YtcckipimfgmmdaaGreatDoorASmall
import Derived.Deep.RegionHeld3
namespace Go.Proofs.YtcckipimfgmmdaaGreatDoor.A
open Go.RowKit

theorem value_wrong (k a : Int) (w : World) (h : rightB k a = false) :
    Calls Tryz.prog 11 #[.agg #[.int .i64 k, .int .i64 a]] w fun e w' => e = .returned (.tuple #[.int .u32 0, .int .i64 1]) ∧ Below w.heap.size w w' := by
  have HR : Hid (∀ W : World, Calls Tryz.prog 27 #[.agg #[.int .i64 k, .int .i64 a]] W fun e w' => e = .returned (.bool false) ∧ Below W.heap.size W w') := fun W => h ▸ right_any k a W
  have HB : Hid (∀ o, Below w.heap.size w (w.alloc o)) := fun o => (Below.refl _ _).alloc (Nat.le_refl _) _
  clear h
  go_enter Tryz.func11, Tryz.ntmps11
  go_wp2_with (go_at_call 27; refine (HR.out _).mono ?_; rintro e w2 ⟨rfl, b2⟩)
  go_ret2
  exact ⟨rfl, (HB.out _).trans (b2.mono (HB.out _).size)⟩

set_option maxHeartbeats 800000 in
theorem value_right (k a : Int) (w : World) (h : rightB k a = true) :
    Calls Tryz.prog 11 #[.agg #[.int .i64 k, .int .i64 a]] w fun e w' => e = .returned (.tuple #[.int .u32 (numK k + a), .int .i64 0]) ∧ Below w.heap.size w w' := by
  have HR : Hid (∀ W : World, Calls Tryz.prog 27 #[.agg #[.int .i64 k, .int .i64 a]] W fun e w' => e = .returned (.bool true) ∧ Below W.heap.size W w') := fun W => h ▸ right_any k a W
  have HB : Hid (∀ o, Below w.heap.size w (w.alloc o)) := fun o => (Below.refl _ _).alloc (Nat.le_refl _) _
  have HN : Hid (∀ W : World, Calls Tryz.prog 28 #[] W fun e w' => e = .returned (.agg (cellsU tblL).toArray) ∧ Below W.heap.size W w') := numbers_any
  obtain ⟨h1, h8, a0, a1, -⟩ := right_bd h
  obtain ⟨n0, n1, n2, -⟩ := numK_top h1 h8
  have ho : bits BinOp.or IntKind.u32 (numK k) a = numK k + a := or_bits _ a n0 n1 n2 a0 a1
  have hw : IntKind.u32.wrap a = a := by rw [IntKind.wrap_u32]; omega
  have hix : ∀ W : World, (Instr.index 81 (.agg (cellsU tblL).toArray) (.int .i64 k)).run Tryz.prog W = .ok (.int .u32 (numK k)) W := by
    obtain ⟨m, rfl⟩ := Int.eq_ofNat_of_zero_le (show 0 ≤ k by omega)
    intro W
    refine index_row 81 23 9 .i64 .u32 Tryz.underlying81 Tryz.underlying23 Tryz.sizeOf23 _ m _ (by omega) ?_ W
    rw [List.getElem?_toArray, tbl_at m (by omega)]
    unfold numK
    rw [Int.toNat_natCast]
  generalize (cellsU tblL).toArray = R at *
  generalize numK k = z at *
  have HK : Hid (Blk (w.alloc (Obj.cells #[.int .i64 k, .int .i64 a] 36)) w.heap.size 36 [.int .i64 k, .int .i64 a]) := blk_new w _ 36
  clear h h1 h8 n0 n1 n2
  go_enter Tryz.func11, Tryz.ntmps11
  go_wp2_with (go_at_call 27; refine (HR.out _).mono ?_; rintro e w2 ⟨rfl, b2⟩)
  have B2 : Hid (Below w.heap.size w w2) := (HB.out _).trans (b2.mono (HB.out _).size)
  have D2 : Hid (Blk w2 w.heap.size 36 [.int .i64 k, .int .i64 a]) := HK.out.over b2
  have c0 : w2.cell? ⟨w.heap.size, 0, none⟩ = some (.int .i64 k) := D2.out.cell 0
  have c1 : w2.cell? ⟨w.heap.size, 1, none⟩ = some (.int .i64 a) := D2.out.cell 1
  have HQ : Hid (Calls Tryz.prog 28 #[] w2.drew fun e w' => e = .returned (.agg R) ∧ ((fun X => X.cell? ⟨w.heap.size, 0, none⟩ = some (.int .i64 k) ∧ X.cell? ⟨w.heap.size, 1, none⟩ = some (.int .i64 a)) w' ∧ Hid (Below w.heap.size w w'))) := by
    refine (HN.out w2.drew).mono ?_
    rintro e w' ⟨rfl, hb⟩
    have D3 : Blk w' w.heap.size 36 [.int .i64 k, .int .i64 a] := D2.out.drew.over hb
    exact ⟨rfl, ⟨D3.cell 0, D3.cell 1⟩, B2.out.drew.trans (hb.mono B2.out.size)⟩
  clear b2
  go_region_held3 (fun X => X.cell? ⟨w.heap.size, 0, none⟩ = some (.int .i64 k) ∧ X.cell? ⟨w.heap.size, 1, none⟩ = some (.int .i64 a)) (first | assumption | go_keep) (first | (go_at_call 28; refine (HQ.out).mono ?_; rintro e w5 ⟨rfl, hS5, G5⟩))
  all_goals
    go_wp2
    go_ret2
    exact ⟨rfl, G5.out⟩

theorem value_any (k a : Int) (w : World) :
    Calls Tryz.prog 11 #[.agg #[.int .i64 k, .int .i64 a]] w fun e w' => e = .returned (.tuple #[.int .u32 (valZ k a), .int .i64 (errZ k a)]) ∧ Below w.heap.size w w' := by
  unfold valZ errZ
  by_cases h : rightB k a = true
  · rw [if_pos h, if_pos h]
    exact value_right k a w h
  · rw [if_neg h, if_neg h]
    exact value_wrong k a w (by simpa using h)

end Go.Proofs.YtcckipimfgmmdaaGreatDoor.A
