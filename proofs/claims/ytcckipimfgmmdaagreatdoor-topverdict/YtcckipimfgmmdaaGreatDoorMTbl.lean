/-
  The table of the calls, and what Nr and Name tell of any name and number.
-/
import Derived.Test.YtcckipimfgmmdaaGreatDoorMTab
namespace Go.Proofs.YtcckipimfgmmdaaGreatDoor.M
open Go.RowKit

theorem at_op {P : Program} {ops : Array Oper} {Q : Exit → Act → World → Prop} {rest : List Oper} {o : Oper} {a : Act} {w : World} (op : Op) (_ho : o.op = op) (h : wpList P ops Q (o :: rest) a w) : wpList P ops Q (o :: rest) a w := h

theorem below_setRow {B : Nat} {a w : World} (h : Below B a w) {g : Nat} (hg : B ≤ g) (cs : Array Value) : Below B a (w.setRow g cs) :=
  h.trans ⟨rfl, rfl, rfl, by simp, fun k hk => setRow_other _ _ _ _ (by omega)⟩

theorem Tryz.sizeT : (Tryz.prog.info? 172).map (·.size) = some tabC.toArray.size := by kernel_rfl

theorem tab_one : tabC.toArray.all (·.oneCell') = true := by kernel_rfl

def zeroC : List Value := (List.range 30).flatMap fun _ => [.string ⟨#[]⟩, .int .u32 0]

set_option maxRecDepth 10000 in
set_option maxHeartbeats 1000000 in
theorem calls_any (w : World) : Calls Tryz.prog 95 #[] w fun e w' => e = .returned (.agg tabC.toArray) ∧ Below w.heap.size w w' := by
  have HB : Hid (Below w.heap.size w (w.alloc (Obj.cells zeroC.toArray 172))) := below_new w _
  have HK : Hid (Blk (w.alloc (Obj.cells zeroC.toArray 172)) w.heap.size 172 zeroC) := blk_new w _ _
  go_enter Tryz.func95, Tryz.ntmps95
  go_wp2_with (refine at_op (.store 172 (.tmp 0) (.tmp 31)) rfl ?_; refine wpList_store_row rfl 172 (.tmp 0) (.tmp 31) rfl w.heap.size tabC.toArray rfl rfl 172 _ HK.out Tryz.sizeT rfl tab_one ?_)
  refine bodyPost_ret (v := .agg tabC.toArray) ?_ rfl ⟨rfl, ?_⟩
  · exact results_cell_row Tryz.results95 _ _ w.heap.size 172 tabC.toArray (0, 0) _ rfl (Blk.row HK.out _) Tryz.underlying172 rfl Tryz.sizeT
  · exact below_setRow HB.out (Nat.le_refl _) _

end Go.Proofs.YtcckipimfgmmdaaGreatDoor.M
