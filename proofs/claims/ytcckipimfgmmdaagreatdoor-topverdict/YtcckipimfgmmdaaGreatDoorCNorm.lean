/-
  A condition's one form, by package cond: proved of every condition.
-/
import Derived.Test.YtcckipimfgmmdaaGreatDoorCTurned
import Derived.Test.YtcckipimfgmmdaaGreatDoorCNot
namespace Go.Proofs.YtcckipimfgmmdaaGreatDoor.C
open Go.RowKit

set_option maxHeartbeats 400000 in
theorem norm_wrong (a o m v : Int) (w : World) (hr : rightB a o = false) :
    Calls Tryz.prog 167 #[(.agg #[.int .i64 a, .int .i64 o, .int .u64 m, .int .u64 v])] w fun e w' => e = .returned never.val ∧ Below w.heap.size w w' := by
  have HR : Hid (∀ W : World, Calls Tryz.prog 102 #[(.agg #[.int .i64 a, .int .i64 o, .int .u64 m, .int .u64 v])] W fun e w' => e = .returned (.bool false) ∧ Below W.heap.size W w') := fun W => hr ▸ right_any a o m v W
  have HN : Hid (∀ W : World, Calls Tryz.prog 184 #[] W fun e w' => e = .returned never.val ∧ Below W.heap.size W w') := never_any
  have HK : Hid (Kc w [.int .i64 a, .int .i64 o, .int .u64 m, .int .u64 v] 239 [.bool false, .bool false, .bool false, .int .i64 0, .int .u64 0, .int .u64 0] ((w.alloc (Obj.cells #[.int .i64 a, .int .i64 o, .int .u64 m, .int .u64 v] 139)).alloc (Obj.cells #[.bool false, .bool false, .bool false, .int .i64 0, .int .u64 0, .int .u64 0] 239))) := kc_new w [.int .i64 a, .int .i64 o, .int .u64 m, .int .u64 v] [.bool false, .bool false, .bool false, .int .i64 0, .int .u64 0, .int .u64 0] 239
  clear hr
  go_enter Tryz.func167, Tryz.ntmps167
  go_wp2_with (first | (go_at_call 102; refine (HR.out _).mono ?_; rintro e w1 ⟨rfl, b1⟩; have K1 : Hid (Kc w [.int .i64 a, .int .i64 o, .int .u64 m, .int .u64 v] 239 [.bool false, .bool false, .bool false, .int .i64 0, .int .u64 0, .int .u64 0] w1) := HK.out.over b1; clear b1) | (go_at_call 184; refine (HN.out _).mono ?_; rintro e w2 ⟨rfl, b2⟩; have K2 : Hid (Kc w [.int .i64 a, .int .i64 o, .int .u64 m, .int .u64 v] 239 [.bool false, .bool false, .bool false, .int .i64 0, .int .u64 0, .int .u64 0] w2) := K1.out.over b2; clear b2) | (refine at_op (.store 239 (.tmp 2) (.tmp 6)) rfl ?_; refine wpList_store_row rfl 239 (.tmp 2) (.tmp 6) rfl (w.heap.size + 1) never.cells.toArray rfl rfl 239 _ K2.out.2.1 (no_size _) rfl (no_one _) ?_))
  refine bodyPost_ret (v := never.val) ?_ rfl ⟨rfl, ?_⟩
  · exact results_cell_row Tryz.results167 _ _ (w.heap.size + 1) 239 never.cells.toArray (0, 0) _ rfl (Blk.row K2.out.2.1 _) Tryz.underlying239 rfl (no_size _)
  · exact below_setRow K2.out.2.2 (Nat.le_succ _) _

set_option maxHeartbeats 800000 in
theorem norm_form (a o m v : Int) (w : World) (hr : rightB a o = true) (ho : hasF o = true) :
    Calls Tryz.prog 167 #[(.agg #[.int .i64 a, .int .i64 o, .int .u64 m, .int .u64 v])] w fun e w' => e = .returned (formN o m v).val ∧ Below w.heap.size w w' := by
  have HR : Hid (∀ W : World, Calls Tryz.prog 102 #[(.agg #[.int .i64 a, .int .i64 o, .int .u64 m, .int .u64 v])] W fun e w' => e = .returned (.bool true) ∧ Below W.heap.size W w') := fun W => hr ▸ right_any a o m v W
  have HH : Hid (∀ W : World, Calls Tryz.prog 185 #[.int .i64 o] W fun e w' => e = .returned (.bool true) ∧ w' = W) := fun W => ho ▸ hasForm_any o W
  have HF : Hid (∀ W : World, Calls Tryz.prog 186 #[(.agg #[.int .i64 a, .int .i64 o, .int .u64 m, .int .u64 v])] W fun e w' => e = .returned (formN o m v).val ∧ Below W.heap.size W w') := fun W => form_any a o m v W ho
  have HK : Hid (Kc w [.int .i64 a, .int .i64 o, .int .u64 m, .int .u64 v] 239 [.bool false, .bool false, .bool false, .int .i64 0, .int .u64 0, .int .u64 0] ((w.alloc (Obj.cells #[.int .i64 a, .int .i64 o, .int .u64 m, .int .u64 v] 139)).alloc (Obj.cells #[.bool false, .bool false, .bool false, .int .i64 0, .int .u64 0, .int .u64 0] 239))) := kc_new w [.int .i64 a, .int .i64 o, .int .u64 m, .int .u64 v] [.bool false, .bool false, .bool false, .int .i64 0, .int .u64 0, .int .u64 0] 239
  clear hr ho
  generalize formN o m v = n at *
  go_enter Tryz.func167, Tryz.ntmps167
  go_wp2_with (first | (go_at_call 102; refine (HR.out _).mono ?_; rintro e w1 ⟨rfl, b1⟩; have K1 : Hid (Kc w [.int .i64 a, .int .i64 o, .int .u64 m, .int .u64 v] 239 [.bool false, .bool false, .bool false, .int .i64 0, .int .u64 0, .int .u64 0] w1) := HK.out.over b1; have c1 := K1.out.1.cell 1; clear b1) | (go_at_call 185; refine (HH.out _).mono ?_; rintro e w2 ⟨rfl, rfl⟩) | (refine at_op (.load 139 (.tmp 1)) rfl ?_; refine wpList_load_row rfl 139 (.tmp 1) rfl w.heap.size rfl 139 #[.int .i64 a, .int .i64 o, .int .u64 m, .int .u64 v] (0, 0) _ K1.out.1 Tryz.underlying139 rfl Tryz.size139 ?_) | (go_at_call 186; refine (HF.out _).mono ?_; rintro e w3 ⟨rfl, b3⟩; have K2 : Hid (Kc w [.int .i64 a, .int .i64 o, .int .u64 m, .int .u64 v] 239 [.bool false, .bool false, .bool false, .int .i64 0, .int .u64 0, .int .u64 0] w3) := K1.out.over b3; clear b3) | (refine at_op (.store 239 (.tmp 2) (.tmp 11)) rfl ?_; refine wpList_store_row rfl 239 (.tmp 2) (.tmp 11) rfl (w.heap.size + 1) n.cells.toArray rfl rfl 239 _ K2.out.2.1 (no_size _) rfl (no_one _) ?_))
  refine bodyPost_ret (v := n.val) ?_ rfl ⟨rfl, ?_⟩
  · exact results_cell_row Tryz.results167 _ _ (w.heap.size + 1) 239 n.cells.toArray (0, 0) _ rfl (Blk.row K2.out.2.1 _) Tryz.underlying239 rfl (no_size _)
  · exact below_setRow K2.out.2.2 (Nat.le_succ _) _

set_option maxHeartbeats 800000 in
theorem norm_turned (a o m v : Int) (w : World) (hr : rightB a o = true) (ho : hasF o = false) :
    Calls Tryz.prog 167 #[(.agg #[.int .i64 a, .int .i64 o, .int .u64 m, .int .u64 v])] w fun e w' => e = .returned (turn (formN (opp o) m v)).val ∧ Below w.heap.size w w' := by
  have HR : Hid (∀ W : World, Calls Tryz.prog 102 #[(.agg #[.int .i64 a, .int .i64 o, .int .u64 m, .int .u64 v])] W fun e w' => e = .returned (.bool true) ∧ Below W.heap.size W w') := fun W => hr ▸ right_any a o m v W
  have HH : Hid (∀ W : World, Calls Tryz.prog 185 #[.int .i64 o] W fun e w' => e = .returned (.bool false) ∧ w' = W) := fun W => ho ▸ hasForm_any o W
  have HO : Hid (∀ W : World, Calls Tryz.prog 187 #[.int .i64 o] W fun e w' => e = .returned (.int .i64 (opp o)) ∧ Below W.heap.size W w') := fun W => opposite_any o W (right_bd hr).2.2.1 (right_bd hr).2.2.2
  have hp := opp_has (right_bd hr).2.2.1 (right_bd hr).2.2.2 ho
  generalize opp o = p at *
  have HF : Hid (∀ W : World, Calls Tryz.prog 186 #[(.agg #[.int .i64 a, .int .i64 p, .int .u64 m, .int .u64 v])] W fun e w' => e = .returned (formN p m v).val ∧ Below W.heap.size W w') := fun W => form_any a p m v W hp
  have HT : Hid (∀ W : World, Calls Tryz.prog 188 #[(formN p m v).val] W fun e w' => e = .returned (turn (formN p m v)).val ∧ Below W.heap.size W w') := fun W => turned_any _ W
  have HK : Hid (Kc w [.int .i64 a, .int .i64 o, .int .u64 m, .int .u64 v] 239 [.bool false, .bool false, .bool false, .int .i64 0, .int .u64 0, .int .u64 0] ((w.alloc (Obj.cells #[.int .i64 a, .int .i64 o, .int .u64 m, .int .u64 v] 139)).alloc (Obj.cells #[.bool false, .bool false, .bool false, .int .i64 0, .int .u64 0, .int .u64 0] 239))) := kc_new w [.int .i64 a, .int .i64 o, .int .u64 m, .int .u64 v] [.bool false, .bool false, .bool false, .int .i64 0, .int .u64 0, .int .u64 0] 239
  clear hr ho hp
  generalize turn (formN p m v) = n at *
  generalize formN p m v = n0 at *
  go_enter Tryz.func167, Tryz.ntmps167
  go_wp2_with (first | (go_at_call 102; refine (HR.out _).mono ?_; rintro e w1 ⟨rfl, b1⟩; have K1 : Hid (Kc w [.int .i64 a, .int .i64 o, .int .u64 m, .int .u64 v] 239 [.bool false, .bool false, .bool false, .int .i64 0, .int .u64 0, .int .u64 0] w1) := HK.out.over b1; have c1 := K1.out.1.cell 1; clear b1) | (go_at_call 185; refine (HH.out _).mono ?_; rintro e w2 ⟨rfl, rfl⟩) | (go_at_call 187; refine (HO.out _).mono ?_; rintro e w3 ⟨rfl, b3⟩; have K2 : Hid (Kc w [.int .i64 a, .int .i64 o, .int .u64 m, .int .u64 v] 239 [.bool false, .bool false, .bool false, .int .i64 0, .int .u64 0, .int .u64 0] w3) := K1.out.over b3; have d1 := K2.out.1.cell 1; have f1 := K2.out.1.f 1; have K3 : Hid (Kc w [.int .i64 a, .int .i64 p, .int .u64 m, .int .u64 v] 239 [.bool false, .bool false, .bool false, .int .i64 0, .int .u64 0, .int .u64 0] (w3.setCell ⟨w.heap.size, 1, none⟩ (.int .i64 p))) := K2.out.set 1 (.int .i64 p); clear b3) | (refine at_op (.load 139 (.tmp 1)) rfl ?_; refine wpList_load_row rfl 139 (.tmp 1) rfl w.heap.size rfl 139 #[.int .i64 a, .int .i64 p, .int .u64 m, .int .u64 v] (0, 0) _ K3.out.1 Tryz.underlying139 rfl Tryz.size139 ?_) | (go_at_call 186; refine (HF.out _).mono ?_; rintro e w4 ⟨rfl, b4⟩; have K4 : Hid (Kc w [.int .i64 a, .int .i64 p, .int .u64 m, .int .u64 v] 239 [.bool false, .bool false, .bool false, .int .i64 0, .int .u64 0, .int .u64 0] w4) := K3.out.over b4; clear b4) | (go_at_call 188; refine (HT.out _).mono ?_; rintro e w5 ⟨rfl, b5⟩; have K5 : Hid (Kc w [.int .i64 a, .int .i64 p, .int .u64 m, .int .u64 v] 239 [.bool false, .bool false, .bool false, .int .i64 0, .int .u64 0, .int .u64 0] w5) := K4.out.over b5; clear b5) | (refine at_op (.store 239 (.tmp 2) (.tmp 18)) rfl ?_; refine wpList_store_row rfl 239 (.tmp 2) (.tmp 18) rfl (w.heap.size + 1) n.cells.toArray rfl rfl 239 _ K5.out.2.1 (no_size _) rfl (no_one _) ?_))
  refine bodyPost_ret (v := n.val) ?_ rfl ⟨rfl, ?_⟩
  · exact results_cell_row Tryz.results167 _ _ (w.heap.size + 1) 239 n.cells.toArray (0, 0) _ rfl (Blk.row K5.out.2.1 _) Tryz.underlying239 rfl (no_size _)
  · exact below_setRow K5.out.2.2 (Nat.le_succ _) _

theorem norm_any (a o m v : Int) (w : World) :
    Calls Tryz.prog 167 #[(.agg #[.int .i64 a, .int .i64 o, .int .u64 m, .int .u64 v])] w fun e w' => e = .returned (normN a o m v).val ∧ Below w.heap.size w w' := by
  unfold normN
  by_cases h : rightB a o = true
  · rw [if_pos h]
    by_cases ho : hasF o = true
    · rw [if_pos ho]
      exact norm_form a o m v w h ho
    · rw [if_neg ho]
      exact norm_turned a o m v w h (by simpa using ho)
  · rw [if_neg h]
    exact norm_wrong a o m v w (by simpa using h)

end Go.Proofs.YtcckipimfgmmdaaGreatDoor.C
