/-
  The kind of a number, by package act: proved.
-/
import Derived.Test.YtcckipimfgmmdaaGreatDoorASmall
namespace Go.Proofs.YtcckipimfgmmdaaGreatDoor.A
open Go.RowKit

set_option maxHeartbeats 800000 in
theorem kindOf_any (n : Int) (w : World) :
    Calls Tryz.prog 98 #[.int .u32 n] w fun e w' => e = .returned (.int .i64 (kiH n)) ∧ Below w.heap.size w w' := by
  have HN : Hid (∀ W : World, Calls Tryz.prog 28 #[] W fun e w' => e = .returned (.agg (cellsU tblL).toArray) ∧ Below W.heap.size W w') := numbers_any
  have HT : Hid (∀ k, k < 9 → (cellsU tblL)[k]? = some (.int .u32 (tblL.getD k 0))) := tbl_at
  have HSz : Hid ((Tryz.prog.info? 81).map (·.size) = some (cellsU tblL).toArray.size) := by unfold Hid; rw [Tryz.size81]; rfl
  have HSs : Hid ((List.replicate 9 (Value.int .u32 0)).toArray.size = (cellsU tblL).toArray.size) := rfl
  have H1 : Hid ((cellsU tblL).toArray.all (·.oneCell') = true) := cellsU_one _
  generalize hR : cellsU tblL = R at *
  clear hR
  go_enter Tryz.func98, Tryz.ntmps98
  go_wp2_with (first | (go_at_call 28; refine (HN.out _).mono ?_; rintro e w1 ⟨rfl, b1⟩; have hz : Hid (Blk (w1.alloc (Obj.cells (List.replicate 9 (Value.int .u32 0)).toArray 81)) w1.heap.size 81 (List.replicate 9 (Value.int .u32 0))) := blk_new w1 _ 81; have hB : Hid (Below w.heap.size w (w1.alloc (Obj.cells (List.replicate 9 (Value.int .u32 0)).toArray 81))) := b1.alloc b1.size _) | (refine wpList_store_row rfl 81 (.tmp 3) (.tmp 5) rfl w1.heap.size R.toArray rfl rfl 81 _ hz.out HSz.out HSs.out H1.out ?_))
  go_loopw [4] (fun i wr => ∃ k : Nat, 1 ≤ k ∧ k ≤ 9 ∧ i = .int .i64 k ∧ (∀ j, 1 ≤ j → j < k → tblL.getD j 0 ≠ n) ∧ Blk wr w1.heap.size 81 R ∧ Below w.heap.size w wr) (fun i _ => 9 - (intOf i).toNat)
  case atStart =>
    exact ⟨1, by omega, by omega, rfl, fun j _ _ => absurd ‹j < 1› (by omega), hz.out.row R.toArray, below_setRow hB.out b1.size _⟩
  case round =>
    obtain ⟨k, hk1, hk, rfl, hno, hb, hbr⟩ := hrel
    have HNo : Hid (∀ j, 1 ≤ j → j < k → tblL.getD j 0 ≠ n) := hno
    clear hno
    by_cases hlt : k < 9
    · have q := hb.cell k
      rw [HT.out k hlt] at q
      have HF : Hid (tblL.getD k 0 = n → kiH n = k) := fun h => kiH_found n k hk1 (by omega) HNo.out h
      have HZ : Hid (∀ z, tblL.getD k 0 = z → z ≠ n → ∀ j, 1 ≤ j → j < k + 1 → tblL.getD j 0 ≠ n) := by
        intro z hz hzn j h1 hj
        by_cases e : j = k
        · subst e; rw [hz]; exact hzn
        · exact HNo.out j h1 (by omega)
      have HB : Hid (Blk wr w1.heap.size 81 R) := hb
      clear hb HNo
      generalize tblL.getD k 0 = z at *
      have h8 : (k : Int) ≤ 8 := by omega
      by_cases hz : z = n
      · have HE : Hid (kiH n = k) := HF.out hz
        clear HF HZ
        subst hz
        go_wp2
        go_ret
        exact ⟨ret_int HE.out.symm, hbr⟩
      · have hzb : (z == n) = false := beq_eq_false_iff_ne.2 hz
        go_wp2
        go_roundw
        case rel => exact ⟨k + 1, by omega, by omega, by go_num, HZ.out z rfl hz, HB.out, hbr⟩
        case measure => simp [intOf]; omega
    · have h9 : ¬ (k : Int) ≤ 8 := by omega
      have ek : Hid (kiH n = 1) := kiH_none n (fun j h1 h2 => HNo.out j h1 (by omega))
      clear HNo hb
      go_wp2
      go_ret
      exact ⟨ret_int ek.out.symm, hbr⟩

end Go.Proofs.YtcckipimfgmmdaaGreatDoor.A
