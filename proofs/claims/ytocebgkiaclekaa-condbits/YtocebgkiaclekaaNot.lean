/-
  The condition that holds where another one does not, by package cond and by the document: proved.
-/
import Derived.Test.YtocebgkiaclekaaForm
namespace Go.Proofs.Ytocebgkiaclekaa
open Go.RowKit

/-- a condition in a box of its own, another block behind it, and all that was there stands. -/
def Kc (w : World) (l : List Value) (t : TypeId) (r : List Value) (X : World) : Prop := Blk X w.heap.size 24 l ∧ Blk X (w.heap.size + 1) t r ∧ Below w.heap.size w X

theorem Kc.over {w X Y : World} {l r : List Value} {t : TypeId} (h : Kc w l t r X) (hb : Below X.heap.size X Y) : Kc w l t r Y := ⟨h.1.over hb, h.2.1.over hb, h.2.2.trans (hb.mono h.2.2.size)⟩

theorem kc_new (w : World) (l r : List Value) (t : TypeId) : Kc w l t r ((w.alloc (Obj.cells l.toArray 24)).alloc (Obj.cells r.toArray t)) :=
  ⟨(blk_new w _ 24).alloc _, blk_new' w _ _ t, room_below w _ _⟩

theorem Kc.set {w X : World} {l r : List Value} {t : TypeId} (h : Kc w l t r X) (i : Nat) (x : Value) : Kc w (l.set i x) t r (X.setCell ⟨w.heap.size, i, none⟩ x) :=
  ⟨h.1.set i x, h.2.1.other ⟨w.heap.size, i, none⟩ x (Nat.succ_ne_self _), h.2.2.setCell (p := ⟨w.heap.size, i, none⟩) (Nat.le_refl _) x⟩

theorem results_row2 {fn : Func} {p u : Tmp} (h : fn.results = #[.cell p 24, .tmp u]) (tmps : Array Value) (w : World) (g : Nat) (l : List Value) (y : Value)
    (hp : tmps.getD p undef = .pointer (some ⟨g, 0, none⟩)) (hg : Blk w g 24 l) (hl : (Try.prog.info? 24).map (·.size) = some l.toArray.size) (hy : tmps.getD u undef = y) :
    (results fn tmps).run Try.prog w = .ok (.tuple #[.agg l.toArray, y]) w := by
  rw [results_cell_tmp h, hp, hy]
  simp [asAddr, run_loadVar_row w g 24 24 l.toArray (0, 0) _ hg Try.underlying24 rfl hl]

theorem co_one (a o m v : Int) : (#[.int .i64 a, .int .i64 o, .int .u64 m, .int .u64 v] : Array Value).all (·.oneCell') = true := by simp [Value.oneCell']

/-- what Not tells. -/
def notV (a o m v : Int) : Value := if rightB a o = true then .tuple #[.agg #[.int .i64 a, .int .i64 (opp o), .int .u64 m, .int .u64 v], .int .i64 0] else .tuple #[.agg #[.int .i64 0, .int .i64 0, .int .u64 0, .int .u64 0], .int .i64 1]


set_option maxHeartbeats 400000 in
theorem not_wrong (a o m v : Int) (w : World) (hr : rightB a o = false) :
    Calls Try.prog 14 #[(.agg #[.int .i64 a, .int .i64 o, .int .u64 m, .int .u64 v])] w fun e w' => e = .returned (.tuple #[.agg #[.int .i64 0, .int .i64 0, .int .u64 0, .int .u64 0], .int .i64 1]) ∧ Below w.heap.size w w' := by
  have HR : Hid (∀ W : World, Calls Try.prog 10 #[(.agg #[.int .i64 a, .int .i64 o, .int .u64 m, .int .u64 v])] W fun e w' => e = .returned (.bool false) ∧ Below W.heap.size W w') := fun W => hr ▸ right_any a o m v W
  have HK : Hid (Kc w [.int .i64 a, .int .i64 o, .int .u64 m, .int .u64 v] 24 [.int .i64 0, .int .i64 0, .int .u64 0, .int .u64 0] ((w.alloc (Obj.cells #[.int .i64 a, .int .i64 o, .int .u64 m, .int .u64 v] 24)).alloc (Obj.cells #[.int .i64 0, .int .i64 0, .int .u64 0, .int .u64 0] 24))) := kc_new w [.int .i64 a, .int .i64 o, .int .u64 m, .int .u64 v] [.int .i64 0, .int .i64 0, .int .u64 0, .int .u64 0] 24
  clear hr
  go_enter Try.func14, Try.ntmps14
  go_wp2_with (first | (go_at_call 10; refine (HR.out _).mono ?_; rintro e w1 ⟨rfl, b1⟩; have K1 : Hid (Kc w [.int .i64 a, .int .i64 o, .int .u64 m, .int .u64 v] 24 [.int .i64 0, .int .i64 0, .int .u64 0, .int .u64 0] w1) := HK.out.over b1; clear b1) | (refine at_op (.store 24 (.tmp 2) (.tmp 7)) rfl ?_; refine wpList_store_row rfl 24 (.tmp 2) (.tmp 7) rfl (w.heap.size + 1) #[.int .i64 0, .int .i64 0, .int .u64 0, .int .u64 0] rfl rfl 24 _ K1.out.2.1 Try.size24 rfl (co_one 0 0 0 0) ?_))
  refine bodyPost_ret (v := .tuple #[.agg #[.int .i64 0, .int .i64 0, .int .u64 0, .int .u64 0], .int .i64 1]) ?_ rfl ⟨rfl, ?_⟩
  · exact results_row2 Try.results14 _ _ (w.heap.size + 1) [.int .i64 0, .int .i64 0, .int .u64 0, .int .u64 0] _ rfl (Blk.row K1.out.2.1 _) Try.size24 rfl
  · exact below_setRow K1.out.2.2 (Nat.le_succ _) _

set_option maxHeartbeats 800000 in
theorem not_right (a o m v : Int) (w : World) (hr : rightB a o = true) :
    Calls Try.prog 14 #[(.agg #[.int .i64 a, .int .i64 o, .int .u64 m, .int .u64 v])] w fun e w' => e = .returned (.tuple #[.agg #[.int .i64 a, .int .i64 (opp o), .int .u64 m, .int .u64 v], .int .i64 0]) ∧ Below w.heap.size w w' := by
  have HR : Hid (∀ W : World, Calls Try.prog 10 #[(.agg #[.int .i64 a, .int .i64 o, .int .u64 m, .int .u64 v])] W fun e w' => e = .returned (.bool true) ∧ Below W.heap.size W w') := fun W => hr ▸ right_any a o m v W
  have HO : Hid (∀ W : World, Calls Try.prog 22 #[.int .i64 o] W fun e w' => e = .returned (.int .i64 (opp o)) ∧ Below W.heap.size W w') := fun W => opposite_any o W (right_bd hr).2.2.1 (right_bd hr).2.2.2
  have HK : Hid (Kc w [.int .i64 a, .int .i64 o, .int .u64 m, .int .u64 v] 24 [.int .i64 0, .int .i64 0, .int .u64 0, .int .u64 0] ((w.alloc (Obj.cells #[.int .i64 a, .int .i64 o, .int .u64 m, .int .u64 v] 24)).alloc (Obj.cells #[.int .i64 0, .int .i64 0, .int .u64 0, .int .u64 0] 24))) := kc_new w [.int .i64 a, .int .i64 o, .int .u64 m, .int .u64 v] [.int .i64 0, .int .i64 0, .int .u64 0, .int .u64 0] 24
  clear hr
  generalize opp o = p at *
  go_enter Try.func14, Try.ntmps14
  go_wp2_with (first | (go_at_call 10; refine (HR.out _).mono ?_; rintro e w1 ⟨rfl, b1⟩; have K1 : Hid (Kc w [.int .i64 a, .int .i64 o, .int .u64 m, .int .u64 v] 24 [.int .i64 0, .int .i64 0, .int .u64 0, .int .u64 0] w1) := HK.out.over b1; have c1 := K1.out.1.cell 1; clear b1) | (go_at_call 22; refine (HO.out _).mono ?_; rintro e w2 ⟨rfl, b2⟩; have K2 : Hid (Kc w [.int .i64 a, .int .i64 o, .int .u64 m, .int .u64 v] 24 [.int .i64 0, .int .i64 0, .int .u64 0, .int .u64 0] w2) := K1.out.over b2; have d1 := K2.out.1.cell 1; have f1 := K2.out.1.f 1; have K3 : Hid (Kc w [.int .i64 a, .int .i64 p, .int .u64 m, .int .u64 v] 24 [.int .i64 0, .int .i64 0, .int .u64 0, .int .u64 0] (w2.setCell ⟨w.heap.size, 1, none⟩ (.int .i64 p))) := K2.out.set 1 (.int .i64 p); clear b2) | (refine at_op (.load 24 (.tmp 1)) rfl ?_; refine wpList_load_row rfl 24 (.tmp 1) rfl w.heap.size rfl 24 #[.int .i64 a, .int .i64 p, .int .u64 m, .int .u64 v] (0, 0) _ K3.out.1 Try.underlying24 rfl Try.size24 ?_) | (refine at_op (.store 24 (.tmp 2) (.tmp 12)) rfl ?_; refine wpList_store_row rfl 24 (.tmp 2) (.tmp 12) rfl (w.heap.size + 1) #[.int .i64 a, .int .i64 p, .int .u64 m, .int .u64 v] rfl rfl 24 _ K3.out.2.1 Try.size24 rfl (co_one a p m v) ?_))
  refine bodyPost_ret (v := .tuple #[.agg #[.int .i64 a, .int .i64 p, .int .u64 m, .int .u64 v], .int .i64 0]) ?_ rfl ⟨rfl, ?_⟩
  · exact results_row2 Try.results14 _ _ (w.heap.size + 1) [.int .i64 a, .int .i64 p, .int .u64 m, .int .u64 v] _ rfl (Blk.row K3.out.2.1 _) Try.size24 rfl
  · exact below_setRow K3.out.2.2 (Nat.le_succ _) _

theorem not_any (a o m v : Int) (w : World) :
    Calls Try.prog 14 #[(.agg #[.int .i64 a, .int .i64 o, .int .u64 m, .int .u64 v])] w fun e w' => e = .returned (notV a o m v) ∧ Below w.heap.size w w' := by
  unfold notV
  by_cases h : rightB a o = true
  · rw [if_pos h]
    exact not_right a o m v w h
  · rw [if_neg h]
    exact not_wrong a o m v w (by simpa using h)

set_option maxHeartbeats 400000 in
theorem refNot_wrong (a o m v : Int) (w : World) (hr : rightB a o = false) :
    Calls Try.prog 15 #[(.agg #[.int .i64 a, .int .i64 o, .int .u64 m, .int .u64 v])] w fun e w' => e = .returned (.tuple #[.agg #[.int .i64 0, .int .i64 0, .int .u64 0, .int .u64 0], .int .i64 1]) ∧ Below w.heap.size w w' := by
  have HR : Hid (∀ W : World, Calls Try.prog 11 #[(.agg #[.int .i64 a, .int .i64 o, .int .u64 m, .int .u64 v])] W fun e w' => e = .returned (.bool false) ∧ Below W.heap.size W w') := fun W => hr ▸ refRight_any a o m v W
  have HK : Hid (Kc w [.int .i64 a, .int .i64 o, .int .u64 m, .int .u64 v] 24 [.int .i64 0, .int .i64 0, .int .u64 0, .int .u64 0] ((w.alloc (Obj.cells #[.int .i64 a, .int .i64 o, .int .u64 m, .int .u64 v] 24)).alloc (Obj.cells #[.int .i64 0, .int .i64 0, .int .u64 0, .int .u64 0] 24))) := kc_new w [.int .i64 a, .int .i64 o, .int .u64 m, .int .u64 v] [.int .i64 0, .int .i64 0, .int .u64 0, .int .u64 0] 24
  clear hr
  go_enter Try.func15, Try.ntmps15
  go_wp2_with (first | (go_at_call 11; refine (HR.out _).mono ?_; rintro e w1 ⟨rfl, b1⟩; have K1 : Hid (Kc w [.int .i64 a, .int .i64 o, .int .u64 m, .int .u64 v] 24 [.int .i64 0, .int .i64 0, .int .u64 0, .int .u64 0] w1) := HK.out.over b1; clear b1) | (refine at_op (.store 24 (.tmp 2) (.tmp 8)) rfl ?_; refine wpList_store_row rfl 24 (.tmp 2) (.tmp 8) rfl (w.heap.size + 1) #[.int .i64 0, .int .i64 0, .int .u64 0, .int .u64 0] rfl rfl 24 _ K1.out.2.1 Try.size24 rfl (co_one 0 0 0 0) ?_))
  refine bodyPost_ret (v := .tuple #[.agg #[.int .i64 0, .int .i64 0, .int .u64 0, .int .u64 0], .int .i64 1]) ?_ rfl ⟨rfl, ?_⟩
  · exact results_row2 Try.results15 _ _ (w.heap.size + 1) [.int .i64 0, .int .i64 0, .int .u64 0, .int .u64 0] _ rfl (Blk.row K1.out.2.1 _) Try.size24 rfl
  · exact below_setRow K1.out.2.2 (Nat.le_succ _) _

set_option maxHeartbeats 800000 in
theorem refNot_1 (a m v : Int) (w : World) (hr : rightB a 1 = true) :
    Calls Try.prog 15 #[.agg #[.int .i64 a, .int .i64 1, .int .u64 m, .int .u64 v]] w fun e w' => e = .returned (.tuple #[.agg #[.int .i64 a, .int .i64 2, .int .u64 m, .int .u64 v], .int .i64 0]) ∧ Below w.heap.size w w' := by
  have HR : Hid (∀ W : World, Calls Try.prog 11 #[.agg #[.int .i64 a, .int .i64 1, .int .u64 m, .int .u64 v]] W fun e w' => e = .returned (.bool true) ∧ Below W.heap.size W w') := fun W => hr ▸ refRight_any a 1 m v W
  have HK : Hid (Kc w [.int .i64 a, .int .i64 1, .int .u64 m, .int .u64 v] 24 [.int .i64 0, .int .i64 0, .int .u64 0, .int .u64 0] ((w.alloc (Obj.cells #[.int .i64 a, .int .i64 1, .int .u64 m, .int .u64 v] 24)).alloc (Obj.cells #[.int .i64 0, .int .i64 0, .int .u64 0, .int .u64 0] 24))) := kc_new w [.int .i64 a, .int .i64 1, .int .u64 m, .int .u64 v] [.int .i64 0, .int .i64 0, .int .u64 0, .int .u64 0] 24
  clear hr
  go_enter Try.func15, Try.ntmps15
  go_wp2_with (first | (go_at_call 11; refine (HR.out _).mono ?_; rintro e w1 ⟨rfl, b1⟩; have K2 : Hid (Kc w [.int .i64 a, .int .i64 1, .int .u64 m, .int .u64 v] 24 [.int .i64 0, .int .i64 0, .int .u64 0, .int .u64 0] (w1.alloc (Obj.cells #[.int .i64 0, .int .i64 2, .int .i64 1, .int .i64 6, .int .i64 5, .int .i64 4, .int .i64 3] 3))) := (HK.out.over b1).over (below_new _ _); have d1 := K2.out.1.cell 1; have f1 := K2.out.1.f 1; have K3 : Hid (Kc w [.int .i64 a, .int .i64 2, .int .u64 m, .int .u64 v] 24 [.int .i64 0, .int .i64 0, .int .u64 0, .int .u64 0] ((w1.alloc (Obj.cells #[.int .i64 0, .int .i64 2, .int .i64 1, .int .i64 6, .int .i64 5, .int .i64 4, .int .i64 3] 3)).setCell ⟨w.heap.size, 1, none⟩ (.int .i64 2))) := K2.out.set 1 (.int .i64 2); clear b1) | (refine at_op (.load 24 (.tmp 1)) rfl ?_; refine wpList_load_row rfl 24 (.tmp 1) rfl w.heap.size rfl 24 #[.int .i64 a, .int .i64 2, .int .u64 m, .int .u64 v] (0, 0) _ K3.out.1 Try.underlying24 rfl Try.size24 ?_) | (refine at_op (.store 24 (.tmp 2) (.tmp 16)) rfl ?_; refine wpList_store_row rfl 24 (.tmp 2) (.tmp 16) rfl (w.heap.size + 1) #[.int .i64 a, .int .i64 2, .int .u64 m, .int .u64 v] rfl rfl 24 _ K3.out.2.1 Try.size24 rfl (co_one a 2 m v) ?_))
  refine bodyPost_ret (v := .tuple #[.agg #[.int .i64 a, .int .i64 2, .int .u64 m, .int .u64 v], .int .i64 0]) ?_ rfl ⟨rfl, ?_⟩
  · exact results_row2 Try.results15 _ _ (w.heap.size + 1) [.int .i64 a, .int .i64 2, .int .u64 m, .int .u64 v] _ rfl (Blk.row K3.out.2.1 _) Try.size24 rfl
  · exact below_setRow K3.out.2.2 (Nat.le_succ _) _

set_option maxHeartbeats 800000 in
theorem refNot_2 (a m v : Int) (w : World) (hr : rightB a 2 = true) :
    Calls Try.prog 15 #[.agg #[.int .i64 a, .int .i64 2, .int .u64 m, .int .u64 v]] w fun e w' => e = .returned (.tuple #[.agg #[.int .i64 a, .int .i64 1, .int .u64 m, .int .u64 v], .int .i64 0]) ∧ Below w.heap.size w w' := by
  have HR : Hid (∀ W : World, Calls Try.prog 11 #[.agg #[.int .i64 a, .int .i64 2, .int .u64 m, .int .u64 v]] W fun e w' => e = .returned (.bool true) ∧ Below W.heap.size W w') := fun W => hr ▸ refRight_any a 2 m v W
  have HK : Hid (Kc w [.int .i64 a, .int .i64 2, .int .u64 m, .int .u64 v] 24 [.int .i64 0, .int .i64 0, .int .u64 0, .int .u64 0] ((w.alloc (Obj.cells #[.int .i64 a, .int .i64 2, .int .u64 m, .int .u64 v] 24)).alloc (Obj.cells #[.int .i64 0, .int .i64 0, .int .u64 0, .int .u64 0] 24))) := kc_new w [.int .i64 a, .int .i64 2, .int .u64 m, .int .u64 v] [.int .i64 0, .int .i64 0, .int .u64 0, .int .u64 0] 24
  clear hr
  go_enter Try.func15, Try.ntmps15
  go_wp2_with (first | (go_at_call 11; refine (HR.out _).mono ?_; rintro e w1 ⟨rfl, b1⟩; have K2 : Hid (Kc w [.int .i64 a, .int .i64 2, .int .u64 m, .int .u64 v] 24 [.int .i64 0, .int .i64 0, .int .u64 0, .int .u64 0] (w1.alloc (Obj.cells #[.int .i64 0, .int .i64 2, .int .i64 1, .int .i64 6, .int .i64 5, .int .i64 4, .int .i64 3] 3))) := (HK.out.over b1).over (below_new _ _); have d1 := K2.out.1.cell 1; have f1 := K2.out.1.f 1; have K3 : Hid (Kc w [.int .i64 a, .int .i64 1, .int .u64 m, .int .u64 v] 24 [.int .i64 0, .int .i64 0, .int .u64 0, .int .u64 0] ((w1.alloc (Obj.cells #[.int .i64 0, .int .i64 2, .int .i64 1, .int .i64 6, .int .i64 5, .int .i64 4, .int .i64 3] 3)).setCell ⟨w.heap.size, 1, none⟩ (.int .i64 1))) := K2.out.set 1 (.int .i64 1); clear b1) | (refine at_op (.load 24 (.tmp 1)) rfl ?_; refine wpList_load_row rfl 24 (.tmp 1) rfl w.heap.size rfl 24 #[.int .i64 a, .int .i64 1, .int .u64 m, .int .u64 v] (0, 0) _ K3.out.1 Try.underlying24 rfl Try.size24 ?_) | (refine at_op (.store 24 (.tmp 2) (.tmp 16)) rfl ?_; refine wpList_store_row rfl 24 (.tmp 2) (.tmp 16) rfl (w.heap.size + 1) #[.int .i64 a, .int .i64 1, .int .u64 m, .int .u64 v] rfl rfl 24 _ K3.out.2.1 Try.size24 rfl (co_one a 1 m v) ?_))
  refine bodyPost_ret (v := .tuple #[.agg #[.int .i64 a, .int .i64 1, .int .u64 m, .int .u64 v], .int .i64 0]) ?_ rfl ⟨rfl, ?_⟩
  · exact results_row2 Try.results15 _ _ (w.heap.size + 1) [.int .i64 a, .int .i64 1, .int .u64 m, .int .u64 v] _ rfl (Blk.row K3.out.2.1 _) Try.size24 rfl
  · exact below_setRow K3.out.2.2 (Nat.le_succ _) _

set_option maxHeartbeats 800000 in
theorem refNot_3 (a m v : Int) (w : World) (hr : rightB a 3 = true) :
    Calls Try.prog 15 #[.agg #[.int .i64 a, .int .i64 3, .int .u64 m, .int .u64 v]] w fun e w' => e = .returned (.tuple #[.agg #[.int .i64 a, .int .i64 6, .int .u64 m, .int .u64 v], .int .i64 0]) ∧ Below w.heap.size w w' := by
  have HR : Hid (∀ W : World, Calls Try.prog 11 #[.agg #[.int .i64 a, .int .i64 3, .int .u64 m, .int .u64 v]] W fun e w' => e = .returned (.bool true) ∧ Below W.heap.size W w') := fun W => hr ▸ refRight_any a 3 m v W
  have HK : Hid (Kc w [.int .i64 a, .int .i64 3, .int .u64 m, .int .u64 v] 24 [.int .i64 0, .int .i64 0, .int .u64 0, .int .u64 0] ((w.alloc (Obj.cells #[.int .i64 a, .int .i64 3, .int .u64 m, .int .u64 v] 24)).alloc (Obj.cells #[.int .i64 0, .int .i64 0, .int .u64 0, .int .u64 0] 24))) := kc_new w [.int .i64 a, .int .i64 3, .int .u64 m, .int .u64 v] [.int .i64 0, .int .i64 0, .int .u64 0, .int .u64 0] 24
  clear hr
  go_enter Try.func15, Try.ntmps15
  go_wp2_with (first | (go_at_call 11; refine (HR.out _).mono ?_; rintro e w1 ⟨rfl, b1⟩; have K2 : Hid (Kc w [.int .i64 a, .int .i64 3, .int .u64 m, .int .u64 v] 24 [.int .i64 0, .int .i64 0, .int .u64 0, .int .u64 0] (w1.alloc (Obj.cells #[.int .i64 0, .int .i64 2, .int .i64 1, .int .i64 6, .int .i64 5, .int .i64 4, .int .i64 3] 3))) := (HK.out.over b1).over (below_new _ _); have d1 := K2.out.1.cell 1; have f1 := K2.out.1.f 1; have K3 : Hid (Kc w [.int .i64 a, .int .i64 6, .int .u64 m, .int .u64 v] 24 [.int .i64 0, .int .i64 0, .int .u64 0, .int .u64 0] ((w1.alloc (Obj.cells #[.int .i64 0, .int .i64 2, .int .i64 1, .int .i64 6, .int .i64 5, .int .i64 4, .int .i64 3] 3)).setCell ⟨w.heap.size, 1, none⟩ (.int .i64 6))) := K2.out.set 1 (.int .i64 6); clear b1) | (refine at_op (.load 24 (.tmp 1)) rfl ?_; refine wpList_load_row rfl 24 (.tmp 1) rfl w.heap.size rfl 24 #[.int .i64 a, .int .i64 6, .int .u64 m, .int .u64 v] (0, 0) _ K3.out.1 Try.underlying24 rfl Try.size24 ?_) | (refine at_op (.store 24 (.tmp 2) (.tmp 16)) rfl ?_; refine wpList_store_row rfl 24 (.tmp 2) (.tmp 16) rfl (w.heap.size + 1) #[.int .i64 a, .int .i64 6, .int .u64 m, .int .u64 v] rfl rfl 24 _ K3.out.2.1 Try.size24 rfl (co_one a 6 m v) ?_))
  refine bodyPost_ret (v := .tuple #[.agg #[.int .i64 a, .int .i64 6, .int .u64 m, .int .u64 v], .int .i64 0]) ?_ rfl ⟨rfl, ?_⟩
  · exact results_row2 Try.results15 _ _ (w.heap.size + 1) [.int .i64 a, .int .i64 6, .int .u64 m, .int .u64 v] _ rfl (Blk.row K3.out.2.1 _) Try.size24 rfl
  · exact below_setRow K3.out.2.2 (Nat.le_succ _) _

set_option maxHeartbeats 800000 in
theorem refNot_4 (a m v : Int) (w : World) (hr : rightB a 4 = true) :
    Calls Try.prog 15 #[.agg #[.int .i64 a, .int .i64 4, .int .u64 m, .int .u64 v]] w fun e w' => e = .returned (.tuple #[.agg #[.int .i64 a, .int .i64 5, .int .u64 m, .int .u64 v], .int .i64 0]) ∧ Below w.heap.size w w' := by
  have HR : Hid (∀ W : World, Calls Try.prog 11 #[.agg #[.int .i64 a, .int .i64 4, .int .u64 m, .int .u64 v]] W fun e w' => e = .returned (.bool true) ∧ Below W.heap.size W w') := fun W => hr ▸ refRight_any a 4 m v W
  have HK : Hid (Kc w [.int .i64 a, .int .i64 4, .int .u64 m, .int .u64 v] 24 [.int .i64 0, .int .i64 0, .int .u64 0, .int .u64 0] ((w.alloc (Obj.cells #[.int .i64 a, .int .i64 4, .int .u64 m, .int .u64 v] 24)).alloc (Obj.cells #[.int .i64 0, .int .i64 0, .int .u64 0, .int .u64 0] 24))) := kc_new w [.int .i64 a, .int .i64 4, .int .u64 m, .int .u64 v] [.int .i64 0, .int .i64 0, .int .u64 0, .int .u64 0] 24
  clear hr
  go_enter Try.func15, Try.ntmps15
  go_wp2_with (first | (go_at_call 11; refine (HR.out _).mono ?_; rintro e w1 ⟨rfl, b1⟩; have K2 : Hid (Kc w [.int .i64 a, .int .i64 4, .int .u64 m, .int .u64 v] 24 [.int .i64 0, .int .i64 0, .int .u64 0, .int .u64 0] (w1.alloc (Obj.cells #[.int .i64 0, .int .i64 2, .int .i64 1, .int .i64 6, .int .i64 5, .int .i64 4, .int .i64 3] 3))) := (HK.out.over b1).over (below_new _ _); have d1 := K2.out.1.cell 1; have f1 := K2.out.1.f 1; have K3 : Hid (Kc w [.int .i64 a, .int .i64 5, .int .u64 m, .int .u64 v] 24 [.int .i64 0, .int .i64 0, .int .u64 0, .int .u64 0] ((w1.alloc (Obj.cells #[.int .i64 0, .int .i64 2, .int .i64 1, .int .i64 6, .int .i64 5, .int .i64 4, .int .i64 3] 3)).setCell ⟨w.heap.size, 1, none⟩ (.int .i64 5))) := K2.out.set 1 (.int .i64 5); clear b1) | (refine at_op (.load 24 (.tmp 1)) rfl ?_; refine wpList_load_row rfl 24 (.tmp 1) rfl w.heap.size rfl 24 #[.int .i64 a, .int .i64 5, .int .u64 m, .int .u64 v] (0, 0) _ K3.out.1 Try.underlying24 rfl Try.size24 ?_) | (refine at_op (.store 24 (.tmp 2) (.tmp 16)) rfl ?_; refine wpList_store_row rfl 24 (.tmp 2) (.tmp 16) rfl (w.heap.size + 1) #[.int .i64 a, .int .i64 5, .int .u64 m, .int .u64 v] rfl rfl 24 _ K3.out.2.1 Try.size24 rfl (co_one a 5 m v) ?_))
  refine bodyPost_ret (v := .tuple #[.agg #[.int .i64 a, .int .i64 5, .int .u64 m, .int .u64 v], .int .i64 0]) ?_ rfl ⟨rfl, ?_⟩
  · exact results_row2 Try.results15 _ _ (w.heap.size + 1) [.int .i64 a, .int .i64 5, .int .u64 m, .int .u64 v] _ rfl (Blk.row K3.out.2.1 _) Try.size24 rfl
  · exact below_setRow K3.out.2.2 (Nat.le_succ _) _

set_option maxHeartbeats 800000 in
theorem refNot_5 (a m v : Int) (w : World) (hr : rightB a 5 = true) :
    Calls Try.prog 15 #[.agg #[.int .i64 a, .int .i64 5, .int .u64 m, .int .u64 v]] w fun e w' => e = .returned (.tuple #[.agg #[.int .i64 a, .int .i64 4, .int .u64 m, .int .u64 v], .int .i64 0]) ∧ Below w.heap.size w w' := by
  have HR : Hid (∀ W : World, Calls Try.prog 11 #[.agg #[.int .i64 a, .int .i64 5, .int .u64 m, .int .u64 v]] W fun e w' => e = .returned (.bool true) ∧ Below W.heap.size W w') := fun W => hr ▸ refRight_any a 5 m v W
  have HK : Hid (Kc w [.int .i64 a, .int .i64 5, .int .u64 m, .int .u64 v] 24 [.int .i64 0, .int .i64 0, .int .u64 0, .int .u64 0] ((w.alloc (Obj.cells #[.int .i64 a, .int .i64 5, .int .u64 m, .int .u64 v] 24)).alloc (Obj.cells #[.int .i64 0, .int .i64 0, .int .u64 0, .int .u64 0] 24))) := kc_new w [.int .i64 a, .int .i64 5, .int .u64 m, .int .u64 v] [.int .i64 0, .int .i64 0, .int .u64 0, .int .u64 0] 24
  clear hr
  go_enter Try.func15, Try.ntmps15
  go_wp2_with (first | (go_at_call 11; refine (HR.out _).mono ?_; rintro e w1 ⟨rfl, b1⟩; have K2 : Hid (Kc w [.int .i64 a, .int .i64 5, .int .u64 m, .int .u64 v] 24 [.int .i64 0, .int .i64 0, .int .u64 0, .int .u64 0] (w1.alloc (Obj.cells #[.int .i64 0, .int .i64 2, .int .i64 1, .int .i64 6, .int .i64 5, .int .i64 4, .int .i64 3] 3))) := (HK.out.over b1).over (below_new _ _); have d1 := K2.out.1.cell 1; have f1 := K2.out.1.f 1; have K3 : Hid (Kc w [.int .i64 a, .int .i64 4, .int .u64 m, .int .u64 v] 24 [.int .i64 0, .int .i64 0, .int .u64 0, .int .u64 0] ((w1.alloc (Obj.cells #[.int .i64 0, .int .i64 2, .int .i64 1, .int .i64 6, .int .i64 5, .int .i64 4, .int .i64 3] 3)).setCell ⟨w.heap.size, 1, none⟩ (.int .i64 4))) := K2.out.set 1 (.int .i64 4); clear b1) | (refine at_op (.load 24 (.tmp 1)) rfl ?_; refine wpList_load_row rfl 24 (.tmp 1) rfl w.heap.size rfl 24 #[.int .i64 a, .int .i64 4, .int .u64 m, .int .u64 v] (0, 0) _ K3.out.1 Try.underlying24 rfl Try.size24 ?_) | (refine at_op (.store 24 (.tmp 2) (.tmp 16)) rfl ?_; refine wpList_store_row rfl 24 (.tmp 2) (.tmp 16) rfl (w.heap.size + 1) #[.int .i64 a, .int .i64 4, .int .u64 m, .int .u64 v] rfl rfl 24 _ K3.out.2.1 Try.size24 rfl (co_one a 4 m v) ?_))
  refine bodyPost_ret (v := .tuple #[.agg #[.int .i64 a, .int .i64 4, .int .u64 m, .int .u64 v], .int .i64 0]) ?_ rfl ⟨rfl, ?_⟩
  · exact results_row2 Try.results15 _ _ (w.heap.size + 1) [.int .i64 a, .int .i64 4, .int .u64 m, .int .u64 v] _ rfl (Blk.row K3.out.2.1 _) Try.size24 rfl
  · exact below_setRow K3.out.2.2 (Nat.le_succ _) _

set_option maxHeartbeats 800000 in
theorem refNot_6 (a m v : Int) (w : World) (hr : rightB a 6 = true) :
    Calls Try.prog 15 #[.agg #[.int .i64 a, .int .i64 6, .int .u64 m, .int .u64 v]] w fun e w' => e = .returned (.tuple #[.agg #[.int .i64 a, .int .i64 3, .int .u64 m, .int .u64 v], .int .i64 0]) ∧ Below w.heap.size w w' := by
  have HR : Hid (∀ W : World, Calls Try.prog 11 #[.agg #[.int .i64 a, .int .i64 6, .int .u64 m, .int .u64 v]] W fun e w' => e = .returned (.bool true) ∧ Below W.heap.size W w') := fun W => hr ▸ refRight_any a 6 m v W
  have HK : Hid (Kc w [.int .i64 a, .int .i64 6, .int .u64 m, .int .u64 v] 24 [.int .i64 0, .int .i64 0, .int .u64 0, .int .u64 0] ((w.alloc (Obj.cells #[.int .i64 a, .int .i64 6, .int .u64 m, .int .u64 v] 24)).alloc (Obj.cells #[.int .i64 0, .int .i64 0, .int .u64 0, .int .u64 0] 24))) := kc_new w [.int .i64 a, .int .i64 6, .int .u64 m, .int .u64 v] [.int .i64 0, .int .i64 0, .int .u64 0, .int .u64 0] 24
  clear hr
  go_enter Try.func15, Try.ntmps15
  go_wp2_with (first | (go_at_call 11; refine (HR.out _).mono ?_; rintro e w1 ⟨rfl, b1⟩; have K2 : Hid (Kc w [.int .i64 a, .int .i64 6, .int .u64 m, .int .u64 v] 24 [.int .i64 0, .int .i64 0, .int .u64 0, .int .u64 0] (w1.alloc (Obj.cells #[.int .i64 0, .int .i64 2, .int .i64 1, .int .i64 6, .int .i64 5, .int .i64 4, .int .i64 3] 3))) := (HK.out.over b1).over (below_new _ _); have d1 := K2.out.1.cell 1; have f1 := K2.out.1.f 1; have K3 : Hid (Kc w [.int .i64 a, .int .i64 3, .int .u64 m, .int .u64 v] 24 [.int .i64 0, .int .i64 0, .int .u64 0, .int .u64 0] ((w1.alloc (Obj.cells #[.int .i64 0, .int .i64 2, .int .i64 1, .int .i64 6, .int .i64 5, .int .i64 4, .int .i64 3] 3)).setCell ⟨w.heap.size, 1, none⟩ (.int .i64 3))) := K2.out.set 1 (.int .i64 3); clear b1) | (refine at_op (.load 24 (.tmp 1)) rfl ?_; refine wpList_load_row rfl 24 (.tmp 1) rfl w.heap.size rfl 24 #[.int .i64 a, .int .i64 3, .int .u64 m, .int .u64 v] (0, 0) _ K3.out.1 Try.underlying24 rfl Try.size24 ?_) | (refine at_op (.store 24 (.tmp 2) (.tmp 16)) rfl ?_; refine wpList_store_row rfl 24 (.tmp 2) (.tmp 16) rfl (w.heap.size + 1) #[.int .i64 a, .int .i64 3, .int .u64 m, .int .u64 v] rfl rfl 24 _ K3.out.2.1 Try.size24 rfl (co_one a 3 m v) ?_))
  refine bodyPost_ret (v := .tuple #[.agg #[.int .i64 a, .int .i64 3, .int .u64 m, .int .u64 v], .int .i64 0]) ?_ rfl ⟨rfl, ?_⟩
  · exact results_row2 Try.results15 _ _ (w.heap.size + 1) [.int .i64 a, .int .i64 3, .int .u64 m, .int .u64 v] _ rfl (Blk.row K3.out.2.1 _) Try.size24 rfl
  · exact below_setRow K3.out.2.2 (Nat.le_succ _) _

theorem refNot_any (a o m v : Int) (w : World) :
    Calls Try.prog 15 #[(.agg #[.int .i64 a, .int .i64 o, .int .u64 m, .int .u64 v])] w fun e w' => e = .returned (notV a o m v) ∧ Below w.heap.size w w' := by
  unfold notV
  by_cases h : rightB a o = true
  · rw [if_pos h]
    obtain ⟨_, _, h3, h4⟩ := right_bd h
    rcases six h3 h4 with rfl | rfl | rfl | rfl | rfl | rfl
    · exact refNot_1 a m v w h
    · exact refNot_2 a m v w h
    · exact refNot_3 a m v w h
    · exact refNot_4 a m v w h
    · exact refNot_5 a m v w h
    · exact refNot_6 a m v w h
  · rw [if_neg h]
    exact refNot_wrong a o m v w (by simpa using h)

end Go.Proofs.Ytocebgkiaclekaa
