/-
  CNorm CIs.
-/
import Derived.Test.YtcckipimfgmmdaaGreatDoorGs20
set_option maxHeartbeats 800000
namespace Go.Proofs.YtcckipimfgmmdaaGreatDoor.C
open P (Blk Blk.row)
open Go.RowKit
theorem norm_wrong (a o m v : Int) (w : World) (hr : rightB a o = false) :
  Calls Tryz.prog 167 #[(.agg #[.int .i64 a, .int .i64 o, .int .u64 m, .int .u64 v])] w fun e w' => e = .returned never.val /\ Below w.heap.size w w' := by
 have HR : Hid (∀ W : World, Calls Tryz.prog 102 #[(.agg #[.int .i64 a, .int .i64 o, .int .u64 m, .int .u64 v])] W fun e w' => e = .returned (.bool false) /\ Below W.heap.size W w') := fun W => hr ▸ right_any a o m v W
 have HN : Hid (∀ W : World, Calls Tryz.prog 184 #[] W fun e w' => e = .returned never.val /\ Below W.heap.size W w') := never_any
 have HK : Hid (Kc w [.int .i64 a, .int .i64 o, .int .u64 m, .int .u64 v] 239 [.bool false, .bool false, .bool false, .int .i64 0, .int .u64 0, .int .u64 0] ((w.alloc (Obj.cells #[.int .i64 a, .int .i64 o, .int .u64 m, .int .u64 v] 139)).alloc (Obj.cells #[.bool false, .bool false, .bool false, .int .i64 0, .int .u64 0, .int .u64 0] 239))) := kc_new w [.int .i64 a, .int .i64 o, .int .u64 m, .int .u64 v] [.bool false, .bool false, .bool false, .int .i64 0, .int .u64 0, .int .u64 0] 239
 clear hr
 go_enter Tryz.func167, Tryz.ntmps167
 go_wp2_with (first | (go_at_call 102; refine (HR.out _).mono ?_; rintro e w1 ⟨rfl, b1⟩; have K1 : Hid (Kc w [.int .i64 a, .int .i64 o, .int .u64 m, .int .u64 v] 239 [.bool false, .bool false, .bool false, .int .i64 0, .int .u64 0, .int .u64 0] w1) := HK.out.over b1; clear b1) | (go_at_call 184; refine (HN.out _).mono ?_; rintro e w2 ⟨rfl, b2⟩; have K2 : Hid (Kc w [.int .i64 a, .int .i64 o, .int .u64 m, .int .u64 v] 239 [.bool false, .bool false, .bool false, .int .i64 0, .int .u64 0, .int .u64 0] w2) := K1.out.over b2; clear b2) | (refine at_op (.store 239 (.tmp 2) (.tmp 6)) rfl ?_; refine wpList_store_row rfl 239 (.tmp 2) (.tmp 6) rfl (w.heap.size + 1) never.cells.toArray rfl rfl 239 _ K2.out.2.1 (no_size _) rfl (no_one _) ?_))
 refine bodyPost_ret (v := never.val) ?_ rfl ⟨rfl, ?_⟩
 ·exact results_cell_row Tryz.results167 _ _ (w.heap.size + 1) 239 never.cells.toArray (0, 0) _ rfl (Blk.row K2.out.2.1 _) Tryz.underlying239 rfl (no_size _)
 ·exact below_setRow K2.out.2.2 (Nat.le_succ _) _
theorem norm_form (a o m v : Int) (w : World) (hr : rightB a o = true) (ho : hasF o = true) :
  Calls Tryz.prog 167 #[(.agg #[.int .i64 a, .int .i64 o, .int .u64 m, .int .u64 v])] w fun e w' => e = .returned (formN o m v).val /\ Below w.heap.size w w' := by
 have HR : Hid (∀ W : World, Calls Tryz.prog 102 #[(.agg #[.int .i64 a, .int .i64 o, .int .u64 m, .int .u64 v])] W fun e w' => e = .returned (.bool true) /\ Below W.heap.size W w') := fun W => hr ▸ right_any a o m v W
 have HH : Hid (∀ W : World, Calls Tryz.prog 185 #[.int .i64 o] W fun e w' => e = .returned (.bool true) /\ w' = W) := fun W => ho ▸ hasForm_any o W
 have HF : Hid (∀ W : World, Calls Tryz.prog 186 #[(.agg #[.int .i64 a, .int .i64 o, .int .u64 m, .int .u64 v])] W fun e w' => e = .returned (formN o m v).val /\ Below W.heap.size W w') := fun W => form_any a o m v W ho
 have HK : Hid (Kc w [.int .i64 a, .int .i64 o, .int .u64 m, .int .u64 v] 239 [.bool false, .bool false, .bool false, .int .i64 0, .int .u64 0, .int .u64 0] ((w.alloc (Obj.cells #[.int .i64 a, .int .i64 o, .int .u64 m, .int .u64 v] 139)).alloc (Obj.cells #[.bool false, .bool false, .bool false, .int .i64 0, .int .u64 0, .int .u64 0] 239))) := kc_new w [.int .i64 a, .int .i64 o, .int .u64 m, .int .u64 v] [.bool false, .bool false, .bool false, .int .i64 0, .int .u64 0, .int .u64 0] 239
 clear hr ho
 generalize formN o m v = n at *
 go_enter Tryz.func167, Tryz.ntmps167
 go_wp2_with (first | (go_at_call 102; refine (HR.out _).mono ?_; rintro e w1 ⟨rfl, b1⟩; have K1 : Hid (Kc w [.int .i64 a, .int .i64 o, .int .u64 m, .int .u64 v] 239 [.bool false, .bool false, .bool false, .int .i64 0, .int .u64 0, .int .u64 0] w1) := HK.out.over b1; have c1 := K1.out.1.cell 1; clear b1) | (go_at_call 185; refine (HH.out _).mono ?_; rintro e w2 ⟨rfl, rfl⟩) | (refine at_op (.load 139 (.tmp 1)) rfl ?_; refine wpList_load_row rfl 139 (.tmp 1) rfl w.heap.size rfl 139 #[.int .i64 a, .int .i64 o, .int .u64 m, .int .u64 v] (0, 0) _ K1.out.1 Tryz.underlying139 rfl Tryz.size139 ?_) | (go_at_call 186; refine (HF.out _).mono ?_; rintro e w3 ⟨rfl, b3⟩; have K2 : Hid (Kc w [.int .i64 a, .int .i64 o, .int .u64 m, .int .u64 v] 239 [.bool false, .bool false, .bool false, .int .i64 0, .int .u64 0, .int .u64 0] w3) := K1.out.over b3; clear b3) | (refine at_op (.store 239 (.tmp 2) (.tmp 11)) rfl ?_; refine wpList_store_row rfl 239 (.tmp 2) (.tmp 11) rfl (w.heap.size + 1) n.cells.toArray rfl rfl 239 _ K2.out.2.1 (no_size _) rfl (no_one _) ?_))
 refine bodyPost_ret (v := n.val) ?_ rfl ⟨rfl, ?_⟩
 ·exact results_cell_row Tryz.results167 _ _ (w.heap.size + 1) 239 n.cells.toArray (0, 0) _ rfl (Blk.row K2.out.2.1 _) Tryz.underlying239 rfl (no_size _)
 ·exact below_setRow K2.out.2.2 (Nat.le_succ _) _
theorem norm_turned (a o m v : Int) (w : World) (hr : rightB a o = true) (ho : hasF o = false) :
  Calls Tryz.prog 167 #[(.agg #[.int .i64 a, .int .i64 o, .int .u64 m, .int .u64 v])] w fun e w' => e = .returned (turn (formN (opp o) m v)).val /\ Below w.heap.size w w' := by
 have HR : Hid (∀ W : World, Calls Tryz.prog 102 #[(.agg #[.int .i64 a, .int .i64 o, .int .u64 m, .int .u64 v])] W fun e w' => e = .returned (.bool true) /\ Below W.heap.size W w') := fun W => hr ▸ right_any a o m v W
 have HH : Hid (∀ W : World, Calls Tryz.prog 185 #[.int .i64 o] W fun e w' => e = .returned (.bool false) /\ w' = W) := fun W => ho ▸ hasForm_any o W
 have HO : Hid (∀ W : World, Calls Tryz.prog 187 #[.int .i64 o] W fun e w' => e = .returned (.int .i64 (opp o)) /\ Below W.heap.size W w') := fun W => opposite_any o W (right_bd hr).2.2.1 (right_bd hr).2.2.2
 have hp := opp_has (right_bd hr).2.2.1 (right_bd hr).2.2.2 ho
 generalize opp o = p at *
 have HF : Hid (∀ W : World, Calls Tryz.prog 186 #[(.agg #[.int .i64 a, .int .i64 p, .int .u64 m, .int .u64 v])] W fun e w' => e = .returned (formN p m v).val /\ Below W.heap.size W w') := fun W => form_any a p m v W hp
 have HT : Hid (∀ W : World, Calls Tryz.prog 188 #[(formN p m v).val] W fun e w' => e = .returned (turn (formN p m v)).val /\ Below W.heap.size W w') := fun W => turned_any _ W
 have HK : Hid (Kc w [.int .i64 a, .int .i64 o, .int .u64 m, .int .u64 v] 239 [.bool false, .bool false, .bool false, .int .i64 0, .int .u64 0, .int .u64 0] ((w.alloc (Obj.cells #[.int .i64 a, .int .i64 o, .int .u64 m, .int .u64 v] 139)).alloc (Obj.cells #[.bool false, .bool false, .bool false, .int .i64 0, .int .u64 0, .int .u64 0] 239))) := kc_new w [.int .i64 a, .int .i64 o, .int .u64 m, .int .u64 v] [.bool false, .bool false, .bool false, .int .i64 0, .int .u64 0, .int .u64 0] 239
 clear hr ho hp
 generalize turn (formN p m v) = n at *
 generalize formN p m v = n0 at *
 go_enter Tryz.func167, Tryz.ntmps167
 go_wp2_with (first | (go_at_call 102; refine (HR.out _).mono ?_; rintro e w1 ⟨rfl, b1⟩; have K1 : Hid (Kc w [.int .i64 a, .int .i64 o, .int .u64 m, .int .u64 v] 239 [.bool false, .bool false, .bool false, .int .i64 0, .int .u64 0, .int .u64 0] w1) := HK.out.over b1; have c1 := K1.out.1.cell 1; clear b1) | (go_at_call 185; refine (HH.out _).mono ?_; rintro e w2 ⟨rfl, rfl⟩) | (go_at_call 187; refine (HO.out _).mono ?_; rintro e w3 ⟨rfl, b3⟩; have K2 : Hid (Kc w [.int .i64 a, .int .i64 o, .int .u64 m, .int .u64 v] 239 [.bool false, .bool false, .bool false, .int .i64 0, .int .u64 0, .int .u64 0] w3) := K1.out.over b3; have d1 := K2.out.1.cell 1; have f1 := K2.out.1.f 1; have K3 : Hid (Kc w [.int .i64 a, .int .i64 p, .int .u64 m, .int .u64 v] 239 [.bool false, .bool false, .bool false, .int .i64 0, .int .u64 0, .int .u64 0] (w3.setCell ⟨w.heap.size, 1, none⟩ (.int .i64 p))) := K2.out.set 1 (.int .i64 p); clear b3) | (refine at_op (.load 139 (.tmp 1)) rfl ?_; refine wpList_load_row rfl 139 (.tmp 1) rfl w.heap.size rfl 139 #[.int .i64 a, .int .i64 p, .int .u64 m, .int .u64 v] (0, 0) _ K3.out.1 Tryz.underlying139 rfl Tryz.size139 ?_) | (go_at_call 186; refine (HF.out _).mono ?_; rintro e w4 ⟨rfl, b4⟩; have K4 : Hid (Kc w [.int .i64 a, .int .i64 p, .int .u64 m, .int .u64 v] 239 [.bool false, .bool false, .bool false, .int .i64 0, .int .u64 0, .int .u64 0] w4) := K3.out.over b4; clear b4) | (go_at_call 188; refine (HT.out _).mono ?_; rintro e w5 ⟨rfl, b5⟩; have K5 : Hid (Kc w [.int .i64 a, .int .i64 p, .int .u64 m, .int .u64 v] 239 [.bool false, .bool false, .bool false, .int .i64 0, .int .u64 0, .int .u64 0] w5) := K4.out.over b5; clear b5) | (refine at_op (.store 239 (.tmp 2) (.tmp 18)) rfl ?_; refine wpList_store_row rfl 239 (.tmp 2) (.tmp 18) rfl (w.heap.size + 1) n.cells.toArray rfl rfl 239 _ K5.out.2.1 (no_size _) rfl (no_one _) ?_))
 refine bodyPost_ret (v := n.val) ?_ rfl ⟨rfl, ?_⟩
 ·exact results_cell_row Tryz.results167 _ _ (w.heap.size + 1) 239 n.cells.toArray (0, 0) _ rfl (Blk.row K5.out.2.1 _) Tryz.underlying239 rfl (no_size _)
 ·exact below_setRow K5.out.2.2 (Nat.le_succ _) _
theorem norm_any (a o m v : Int) (w : World) :
  Calls Tryz.prog 167 #[(.agg #[.int .i64 a, .int .i64 o, .int .u64 m, .int .u64 v])] w fun e w' => e = .returned (normN a o m v).val /\ Below w.heap.size w w' := by
 unfold normN
 by_cases h : rightB a o = true
 ·rw [if_pos h]
  by_cases ho : hasF o = true
  ·rw [if_pos ho]
   exact norm_form a o m v w h ho
  ·rw [if_neg ho]
   exact norm_turned a o m v w h (by simpa using ho)
 ·rw [if_neg h]
  exact norm_wrong a o m v w (by simpa using h)
open P (blk_new)
theorem is_said (b0 b1 b2 : Bool) (o m v x : Int) (w : World) (h : (b0 || b1) = true) :
  Calls Tryz.prog 169 #[.agg #[.bool b0, .bool b1, .bool b2, .int .i64 o, .int .u64 m, .int .u64 v], .int .u64 x] w fun e w' => e = .returned (.bool b0) /\ Below w.heap.size w w' := by
 have HB : Hid (∀ o, Below w.heap.size w (w.alloc o)) := below_new w
 have hb : b0 = true \/ (b0 = false /\ b1 = true) := by cases b0 <;> simp_all
 clear h
 rcases hb with rfl | ⟨rfl, rfl⟩
 all_goals
  go_enter Tryz.func169, Tryz.ntmps169
  go_wp2
  go_ret
  exact ⟨rfl, HB.out _⟩
theorem is_has (b2 : Bool) (o m v x : Int) (w : World) (ho : hasF o = true) :
  Calls Tryz.prog 169 #[.agg #[.bool false, .bool false, .bool b2, .int .i64 o, .int .u64 m, .int .u64 v], .int .u64 x] w fun e w' => e = .returned (.bool (!(heldB o (an x m) v == b2))) /\ Below w.heap.size w w' := by
 have HB : Hid (Blk (w.alloc (Obj.cells #[.bool false, .bool false, .bool b2, .int .i64 o, .int .u64 m, .int .u64 v] 239)) w.heap.size 239 [.bool false, .bool false, .bool b2, .int .i64 o, .int .u64 m, .int .u64 v]) := blk_new w _ 239
 have HB2 : Hid (Below w.heap.size w (w.alloc (Obj.cells #[.bool false, .bool false, .bool b2, .int .i64 o, .int .u64 m, .int .u64 v] 239))) := below_new w _
 have HH : Hid (∀ W : World, Calls Tryz.prog 185 #[.int .i64 o] W fun e w' => e = .returned (.bool true) /\ w' = W) := fun W => ho ▸ hasForm_any o W
 have h16 : 1 <= o /\ o <= 6 := by
  have hcase : o = 1 \/ o = 5 \/ o = 6 := by simpa [hasF, or_assoc] using ho
  omega
 have HL : Hid (∀ W : World, Calls Tryz.prog 129 #[.int .i64 o, .int .u64 x, .int .u64 m, .int .u64 v] W fun e w' => e = .returned (.bool (heldB o (an x m) v)) /\ Below W.heap.size W w') := fun W => held_any o x m v W h16.1 h16.2
 clear ho h16
 generalize heldB o (an x m) v = q at *
 go_enter Tryz.func169, Tryz.ntmps169
 go_wp2_with (first | (go_at_call 185; refine (HH.out _).mono ?_; rintro e w1 ⟨rfl, rfl⟩) | (go_at_call 129; refine (HL.out _).mono ?_; rintro e w2 ⟨rfl, b2'⟩; have c2 := (HB.out.over b2').cell 2; have B2 : Hid (Below w.heap.size w w2) := HB2.out.trans (b2'.mono HB2.out.size); clear b2'))
 all_goals
  go_ret
  exact ⟨by cases q <;> cases b2 <;> rfl, B2.out⟩
theorem is_none (b2 : Bool) (o m v x : Int) (w : World) (ho : hasF o = false) :
  Calls Tryz.prog 169 #[.agg #[.bool false, .bool false, .bool b2, .int .i64 o, .int .u64 m, .int .u64 v], .int .u64 x] w fun e w' => e = .returned (.bool (!(false == b2))) /\ Below w.heap.size w w' := by
 have HB2 : Hid (Below w.heap.size w (w.alloc (Obj.cells #[.bool false, .bool false, .bool b2, .int .i64 o, .int .u64 m, .int .u64 v] 239))) := below_new w _
 have HH : Hid (∀ W : World, Calls Tryz.prog 185 #[.int .i64 o] W fun e w' => e = .returned (.bool false) /\ w' = W) := fun W => ho ▸ hasForm_any o W
 clear ho
 go_enter Tryz.func169, Tryz.ntmps169
 go_wp2_with (first | (go_at_call 185; refine (HH.out _).mono ?_; rintro e w1 ⟨rfl, rfl⟩))
 all_goals
  go_ret
  exact ⟨by cases b2 <;> rfl, HB2.out⟩
theorem is_any (n : No) (x : Int) (w : World) :
  Calls Tryz.prog 169 #[n.val, .int .u64 x] w fun e w' => e = .returned (.bool (isN n x)) /\ Below w.heap.size w w' := by
 obtain ⟨b0, b1, b2, o, m, v⟩ := n
 unfold isN
 by_cases h : (b0 || b1) = true
 ·rw [if_pos h]
  exact is_said b0 b1 b2 o m v x w h
 ·rw [if_neg h]
  obtain ⟨rfl, rfl⟩ : b0 = false /\ b1 = false := by simpa using h
  by_cases ho : hasF o = true
  ·dsimp only
   rw [ho, Bool.true_and]
   exact is_has b2 o m v x w ho
  ·have ho' : hasF o = false := by simpa using ho
   dsimp only
   rw [ho', Bool.false_and]
   exact is_none b2 o m v x w ho'
end Go.Proofs.YtcckipimfgmmdaaGreatDoor.C
