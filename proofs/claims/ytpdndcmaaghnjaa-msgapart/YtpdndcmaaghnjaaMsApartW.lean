/-
  The walk of the law that two messages have the same bytes just if they are the same.
-/
import Derived.Test.YtpdndcmaaghnjaaMsEnc
import Derived.Test.YtpdndcmaaghnjaaMsAwk
import Derived.Deep.DeepCutAuto
namespace Go.Proofs.Ytpdndcmaaghnjaa
open Go.RowKit
open D (Da Blk)

theorem encL_byt {m : Mg} (ho : m.ok) : D.Byt (encL m) := by
  unfold encL
  split
  · next h => exact enc_byt ((rightB_iff m).1 h) ho
  · exact fun z hz => by cases hz
theorem enc_same {x y : Mg} (hx : x.ok) (hy : y.ok) (ex : encE x = 0) (ey : encE y = 0) : ((strOfNums (encL x)).toList == (strOfNums (encL y)).toList) = x.same y := by
  have rx : rightB x = true := by unfold encE at ex; by_cases h : rightB x = true; exact h; rw [if_neg h] at ex; cases ex
  have ry : rightB y = true := by unfold encE at ey; by_cases h : rightB y = true; exact h; rw [if_neg h] at ey; cases ey
  rw [str_eq (encL_byt hx) (encL_byt hy), Bool.eq_iff_iff, beq_iff_eq, Mg.same_iff]
  unfold encL
  rw [if_pos rx, if_pos ry]
  exact ⟨fun h => enc_inj ((rightB_iff x).1 rx) hx ((rightB_iff y).1 ry) hy h, fun h => by rw [h]⟩
theorem two_box (w : World) (L M : List Value) : Blk ((w.alloc (Obj.cells L.toArray 28)).alloc (Obj.cells M.toArray 28)) w.heap.size 28 L ∧ Blk ((w.alloc (Obj.cells L.toArray 28)).alloc (Obj.cells M.toArray 28)) (w.heap.size + 1) 28 M ∧ Below w.heap.size w ((w.alloc (Obj.cells L.toArray 28)).alloc (Obj.cells M.toArray 28)) :=
  ⟨(D.blk_new w L.toArray 28).alloc _, D.blk_new' w _ _ 28, (room1 w _).alloc (room1 w _).size _⟩

set_option maxRecDepth 8000 in
set_option maxHeartbeats 1600000 in
theorem apart_longa (x y : Mg) (w : World) (hx : x.ok) (hy : y.ok) (h : 2000 < x.path.length) : Calls Try.prog 7 #[x.vl, y.vl] w fun e w' => e = .returned (.bool true) ∧ Below w.heap.size w w' := by
  have Z0 := two_box w x.cells y.cells
  have HC1 : Hid (x.cells[14]? = some (.string (strOfNums x.path))) := x.c14 hx.2.2.1
  have HC2 : Hid (y.cells[14]? = some (.string (strOfNums y.path))) := y.c14 hy.2.2.1
  have hd : decide ((2000 : Int) < ((strOfNums x.path).size : Int)) = true := decide_eq_true (by rw [strOfNums_size]; omega)
  have hd2 : decide (2000 < (strOfNums x.path).size) = true := decide_eq_true (by rw [strOfNums_size]; exact h)
  clear hx hy h
  unfold Mg.vl
  generalize x.cells = R at *
  generalize y.cells = Q at *
  generalize strOfNums x.path = sx at *
  generalize strOfNums y.path = sy at *
  have HZ0 : Hid _ := Z0
  clear Z0
  go_enter Try.func7, Try.ntmps7
  go_wp2_with (go_at_call 8; refine (awake_any _).mono ?_; rintro e w1 ⟨rfl, b1⟩; have z1 := HZ0.out.1.over b1; have y1 := HZ0.out.2.1.over b1; have c14 := (z1.cell 14).trans HC1.out; have d14 := (y1.cell 14).trans HC2.out; have B1 : Hid (Below w.heap.size w w1) := HZ0.out.2.2.trans (b1.mono HZ0.out.2.2.size); clear b1)
  go_ret
  exact ⟨rfl, B1.out⟩

set_option maxRecDepth 8000 in
set_option maxHeartbeats 1600000 in
theorem apart_longb (x y : Mg) (w : World) (hx : x.ok) (hy : y.ok) (h0 : ¬ 2000 < x.path.length) (h : 2000 < y.path.length) : Calls Try.prog 7 #[x.vl, y.vl] w fun e w' => e = .returned (.bool true) ∧ Below w.heap.size w w' := by
  have Z0 := two_box w x.cells y.cells
  have HC1 : Hid (x.cells[14]? = some (.string (strOfNums x.path))) := x.c14 hx.2.2.1
  have HC2 : Hid (y.cells[14]? = some (.string (strOfNums y.path))) := y.c14 hy.2.2.1
  have hd : decide ((2000 : Int) < ((strOfNums x.path).size : Int)) = false := decide_eq_false (by rw [strOfNums_size]; omega)
  have hd2 : decide (2000 < (strOfNums x.path).size) = false := decide_eq_false (by rw [strOfNums_size]; exact h0)
  have he : decide ((2000 : Int) < ((strOfNums y.path).size : Int)) = true := decide_eq_true (by rw [strOfNums_size]; omega)
  have he2 : decide (2000 < (strOfNums y.path).size) = true := decide_eq_true (by rw [strOfNums_size]; exact h)
  clear h0
  clear hx hy h
  unfold Mg.vl
  generalize x.cells = R at *
  generalize y.cells = Q at *
  generalize strOfNums x.path = sx at *
  generalize strOfNums y.path = sy at *
  have HZ0 : Hid _ := Z0
  clear Z0
  go_enter Try.func7, Try.ntmps7
  go_wp2_with (go_at_call 8; refine (awake_any _).mono ?_; rintro e w1 ⟨rfl, b1⟩; have z1 := HZ0.out.1.over b1; have y1 := HZ0.out.2.1.over b1; have c14 := (z1.cell 14).trans HC1.out; have d14 := (y1.cell 14).trans HC2.out; have B1 : Hid (Below w.heap.size w w1) := HZ0.out.2.2.trans (b1.mono HZ0.out.2.2.size); clear b1)
  go_ret
  exact ⟨rfl, B1.out⟩

set_option linter.unusedSimpArgs false in
set_option maxRecDepth 8000 in
set_option maxHeartbeats 4000000 in
theorem apart_walk (x y : Mg) (w : World) (hx : x.ok) (hy : y.ok) : Calls Try.prog 7 #[x.vl, y.vl] w fun e w' => e = .returned (.bool true) ∧ Below w.heap.size w w' := by
  by_cases h0 : 2000 < x.path.length
  · exact apart_longa x y w hx hy h0
  by_cases h1 : 2000 < y.path.length
  · exact apart_longb x y w hx hy h0 h1
  have Z0 := two_box w x.cells y.cells
  have HC1 : Hid (x.cells[14]? = some (.string (strOfNums x.path))) := x.c14 hx.2.2.1
  have HC2 : Hid (y.cells[14]? = some (.string (strOfNums y.path))) := y.c14 hy.2.2.1
  have hd : decide ((2000 : Int) < ((strOfNums x.path).size : Int)) = false := decide_eq_false (by rw [strOfNums_size]; omega)
  have hd2 : decide (2000 < (strOfNums x.path).size) = false := decide_eq_false (by rw [strOfNums_size]; exact h0)
  have he : decide ((2000 : Int) < ((strOfNums y.path).size : Int)) = false := decide_eq_false (by rw [strOfNums_size]; omega)
  have he2 : decide (2000 < (strOfNums y.path).size) = false := decide_eq_false (by rw [strOfNums_size]; exact h1)
  have HZ1 : Hid ((Try.prog.info? 28).map (·.size) = some x.cells.toArray.size) := x.size hx.2.2.1
  have HZ2 : Hid ((Try.prog.info? 28).map (·.size) = some y.cells.toArray.size) := y.size hy.2.2.1
  have HP : Hid (∀ W : World, Calls Try.prog 9 #[.agg x.cells.toArray] W fun e w' => Below W.heap.size W w' ∧ ∃ v, e = .returned (.tuple #[v, .int .i64 (encE x)]) ∧ w'.ownsRow W.heap.size 5 1 v (encL x).length (K.cellsB (encL x))) := fun W => encode_any x W hx
  have HQ : Hid (∀ W : World, Calls Try.prog 9 #[.agg y.cells.toArray] W fun e w' => Below W.heap.size W w' ∧ ∃ v, e = .returned (.tuple #[v, .int .i64 (encE y)]) ∧ w'.ownsRow W.heap.size 5 1 v (encL y).length (K.cellsB (encL y))) := fun W => encode_any y W hy
  have HY1 : Hid (D.Byt (encL x)) := encL_byt hx
  have HY2 : Hid (D.Byt (encL y)) := encL_byt hy
  have HE : Hid (encE x = 0 → encE y = 0 → ((strOfNums (encL x)).toList == (strOfNums (encL y)).toList) = x.same y) := enc_same hx hy
  have HM : Hid (∀ W : World, (binOp .eql 28 (.agg x.cells.toArray) (.agg y.cells.toArray)).run Try.prog W = .ok (.bool (x.same y)) W) := fun W => eql_mg x y W hx.2.2.1 hy.2.2.1 hx.2.2.2 hy.2.2.2
  have HG : Hid (∀ (W : World) (p q : Operand), (eqGuard .eql 28 p q (.agg x.cells.toArray) (.agg y.cells.toArray)).run Try.prog W = .ok () W) := fun W p q => guard_mg .eql p q x y W (.inl rfl)
  clear hx hy h0 h1
  unfold Mg.vl
  generalize x.cells = R at *
  generalize y.cells = Q at *
  generalize strOfNums x.path = sx at *
  generalize strOfNums y.path = sy at *
  have HZ0 : Hid _ := Z0
  clear Z0
  generalize encE x = e1 at *
  generalize encE y = e2 at *
  generalize encL x = L at *
  generalize encL y = M at *
  generalize x.same y = sm at *
  go_enter Try.func7, Try.ntmps7
  go_wp2_with (first | (go_at_call 8; refine (awake_any _).mono ?_; rintro e w1 ⟨rfl, b1⟩; have z1 := HZ0.out.1.over b1; have y1 := HZ0.out.2.1.over b1; have c14 := (z1.cell 14).trans HC1.out; have d14 := (y1.cell 14).trans HC2.out; have B1 : Hid (Below w.heap.size w w1) := HZ0.out.2.2.trans (b1.mono HZ0.out.2.2.size); clear b1) | (refine at_op (.load 28 (.tmp 2)) rfl ?_; refine wpList_load_row rfl 28 (.tmp 2) rfl w.heap.size rfl 28 R.toArray (0, 0) _ z1 Try.underlying28 rfl HZ1.out ?_))
  refine (HP.out _).mono ?_
  rintro e w2 ⟨b2, v2, rfl, o2⟩
  have z2 := z1.over b2
  have y2 := y1.over b2
  have B2 : Hid (Below w.heap.size w w2) := B1.out.trans (b2.mono B1.out.size)
  obtain ⟨a2, k2, rfl, s2, _⟩ := K.owns_bs o2 HY1.out
  clear b2 o2 c14 d14 z1 y1 B1
  go_wp2_with (refine at_op (.load 28 (.tmp 3)) rfl ?_; refine wpList_load_row rfl 28 (.tmp 3) rfl (w.heap.size + 1) rfl 28 Q.toArray (0, 0) _ y2 Try.underlying28 rfl HZ2.out ?_)
  refine (HQ.out _).mono ?_
  rintro e w3 ⟨b3, v3, rfl, o3⟩
  have z3 := z2.over b3
  have y3 := y2.over b3
  have B3 : Hid (Below w.heap.size w w3) := B2.out.trans (b3.mono B2.out.size)
  have s3 := s2.below b3
  obtain ⟨a3, k3, rfl, t3, _⟩ := K.owns_bs o3 HY2.out
  clear b3 o3 z2 y2 B2 s2
  by_cases q1 : e1 = 0
  case neg =>
    have n1 : (e1 != 0) = true := by simp [q1]
    clear HE
    go_wp2
    go_ret
    exact ⟨rfl, B3.out⟩
  by_cases q2 : e2 = 0
  case neg =>
    have n1 : (e1 != 0) = false := by simp [q1]
    have n2 : (e2 != 0) = true := by simp [q2]
    subst q1
    clear HE
    go_wp2
    go_ret
    exact ⟨rfl, B3.out⟩
  have hst := HE.out q1 q2
  subst q1 q2
  clear HE
  have HS : Hid (((strOfNums L).toList == (strOfNums M).toList) = sm) := hst
  clear hst
  go_upto_region 8 with fail
  cases sm
  case false =>
    refine wp_region_held_drew (S := (fun X => Blk X w.heap.size 28 R ∧ Blk X (w.heap.size + 1) 28 Q ∧ K.Bs X a2 L.length L ∧ K.Bs X a3 M.length M ∧ Below w.heap.size w X)) (by kernel_rfl) (⟨z3.drew, y3.drew, s3.below (D.below_drewN w3 1), t3.below (D.below_drewN w3 1), B3.out.drew⟩) (fun hHeld => ?_)
    simp only [List.size_toArray, List.length_cons, List.length_nil, Nat.reduceAdd]
    refine wpAnyH_take (i := 0) (v := ?_) rfl (by kernel_rfl) (by kernel_rfl) (by kernel_rfl) (fun _ _ _ h => h) (Or.inl ⟨by rfl, ?_⟩) hHeld ?_
    rotate_left
    · (intro w hSw; (try dsimp only at hSw); go_simp; try with_reducible rfl)
    try simp only [Act.put, List.setIfInBounds_toArray, List.set_cons_zero, List.set_cons_succ, List.getElem_toArray, List.getElem_cons_zero, List.getElem_cons_succ]
    refine wpAnyH_take (i := 1) (v := ?_) rfl (by kernel_rfl) (by kernel_rfl) (by kernel_rfl) (fun _ _ _ h => h) (Or.inl ⟨by rfl, ?_⟩) hHeld ?_
    rotate_left
    · (intro w hSw; (try dsimp only at hSw); go_simp; try with_reducible rfl)
    try simp only [Act.put, List.setIfInBounds_toArray, List.set_cons_zero, List.set_cons_succ, List.getElem_toArray, List.getElem_cons_zero, List.getElem_cons_succ]
    refine wpAnyH_take (i := 2) (v := ?_) rfl (by kernel_rfl) (by kernel_rfl) (by kernel_rfl) (fun _ _ _ h => h) (Or.inl ⟨by rfl, ?_⟩) hHeld ?_
    rotate_left
    · (intro w hSw; (try dsimp only at hSw); go_simp; try with_reducible rfl)
    try simp only [Act.put, List.setIfInBounds_toArray, List.set_cons_zero, List.set_cons_succ, List.getElem_toArray, List.getElem_cons_zero, List.getElem_cons_succ]
    refine wpAnyH_take (i := 3) (v := ?_) rfl (by kernel_rfl) (by kernel_rfl) (by kernel_rfl) (fun _ _ _ h => h) (Or.inl ⟨by rfl, ?_⟩) hHeld ?_
    rotate_left
    · (intro w hSw; (try dsimp only at hSw); have q1 := K.run_text hSw.2.2.1 k2; go_simp; try with_reducible rfl)
    try simp only [Act.put, List.setIfInBounds_toArray, List.set_cons_zero, List.set_cons_succ, List.getElem_toArray, List.getElem_cons_zero, List.getElem_cons_succ]
    refine wpAnyH_take (i := 4) (v := ?_) rfl (by kernel_rfl) (by kernel_rfl) (by kernel_rfl) (fun _ _ _ h => h) (Or.inl ⟨by rfl, ?_⟩) hHeld ?_
    rotate_left
    · (intro w hSw; (try dsimp only at hSw); go_simp; try with_reducible rfl)
    try simp only [Act.put, List.setIfInBounds_toArray, List.set_cons_zero, List.set_cons_succ, List.getElem_toArray, List.getElem_cons_zero, List.getElem_cons_succ]
    refine wpAnyH_take (i := 5) (v := ?_) rfl (by kernel_rfl) (by kernel_rfl) (by kernel_rfl) (fun _ _ _ h => h) (Or.inl ⟨by rfl, ?_⟩) hHeld ?_
    rotate_left
    · (intro w hSw; (try dsimp only at hSw); have q1 := K.run_text hSw.2.2.2.1 k3; go_simp; try with_reducible rfl)
    try simp only [Act.put, List.setIfInBounds_toArray, List.set_cons_zero, List.set_cons_succ, List.getElem_toArray, List.getElem_cons_zero, List.getElem_cons_succ]
    refine wpAnyH_take (i := 6) (v := ?_) rfl (by kernel_rfl) (by kernel_rfl) (by kernel_rfl) (fun _ _ _ h => h) (Or.inl ⟨by rfl, ?_⟩) hHeld ?_
    rotate_left
    · (intro w hSw; (try dsimp only at hSw); have q0 := HS.out; go_simp; try with_reducible rfl)
    try simp only [Act.put, List.setIfInBounds_toArray, List.set_cons_zero, List.set_cons_succ, List.getElem_toArray, List.getElem_cons_zero, List.getElem_cons_succ]
    refine wpAnyH_take (i := 7) (v := _) rfl (by kernel_rfl) (by kernel_rfl) (by kernel_rfl) (fun _ _ _ h => h) (Or.inl ⟨by rfl, fun w hSw => exec_load_mg rfl rfl hSw.1 HZ1.out⟩) hHeld ?_
    try simp only [Act.put, List.setIfInBounds_toArray, List.set_cons_zero, List.set_cons_succ, List.getElem_toArray, List.getElem_cons_zero, List.getElem_cons_succ]
    refine wpAnyH_take (i := 8) (v := _) rfl (by kernel_rfl) (by kernel_rfl) (by kernel_rfl) (fun _ _ _ h => h) (Or.inl ⟨by rfl, fun w hSw => exec_load_mg rfl rfl hSw.2.1 HZ2.out⟩) hHeld ?_
    try simp only [Act.put, List.setIfInBounds_toArray, List.set_cons_zero, List.set_cons_succ, List.getElem_toArray, List.getElem_cons_zero, List.getElem_cons_succ]
    refine wpAnyH_take (i := 9) (v := ?_) rfl (by kernel_rfl) (by kernel_rfl) (by kernel_rfl) (fun _ _ _ h => h) (Or.inl ⟨by rfl, ?_⟩) hHeld ?_
    rotate_left
    · (intro w hSw; (try dsimp only at hSw); have q0 := HM.out; have q1 := HG.out; go_simp; try with_reducible rfl)
    try simp only [Act.put, List.setIfInBounds_toArray, List.set_cons_zero, List.set_cons_succ, List.getElem_toArray, List.getElem_cons_zero, List.getElem_cons_succ]
    refine wpAnyH_take (i := 10) (v := ?_) rfl (by kernel_rfl) (by kernel_rfl) (by kernel_rfl) (fun _ _ _ h => h) (Or.inl ⟨by rfl, ?_⟩) hHeld ?_
    rotate_left
    · (intro w hSw; (try dsimp only at hSw); go_simp; try with_reducible rfl)
    try simp only [Act.put, List.setIfInBounds_toArray, List.set_cons_zero, List.set_cons_succ, List.getElem_toArray, List.getElem_cons_zero, List.getElem_cons_succ]
    refine wpAnyH_take (i := 11) (v := ?_) rfl (by kernel_rfl) (by kernel_rfl) (by kernel_rfl) (fun _ _ _ h => h) (Or.inl ⟨by rfl, ?_⟩) hHeld ?_
    rotate_left
    · (intro w hSw; (try dsimp only at hSw); go_simp; try with_reducible rfl)
    try simp only [Act.put, List.setIfInBounds_toArray, List.set_cons_zero, List.set_cons_succ, List.getElem_toArray, List.getElem_cons_zero, List.getElem_cons_succ]
    refine wpAnyH_take (i := 12) (v := ?_) rfl (by kernel_rfl) (by kernel_rfl) (by kernel_rfl) (fun _ _ _ h => h) (Or.inl ⟨by rfl, ?_⟩) hHeld ?_
    rotate_left
    · (intro w hSw; (try dsimp only at hSw); go_simp; try with_reducible rfl)
    try simp only [Act.put, List.setIfInBounds_toArray, List.set_cons_zero, List.set_cons_succ, List.getElem_toArray, List.getElem_cons_zero, List.getElem_cons_succ]
    refine wpAnyH_done (by kernel_rfl) ?_ _
    go_wp2_with fail
    go_ret
    exact ⟨rfl, hHeld.2.2.2.2⟩
  case true =>
    refine wp_region_held_drew (S := (fun X => Blk X w.heap.size 28 R ∧ Blk X (w.heap.size + 1) 28 Q ∧ K.Bs X a2 L.length L ∧ K.Bs X a3 M.length M ∧ Below w.heap.size w X)) (by kernel_rfl) (⟨z3.drew, y3.drew, s3.below (D.below_drewN w3 1), t3.below (D.below_drewN w3 1), B3.out.drew⟩) (fun hHeld => ?_)
    simp only [List.size_toArray, List.length_cons, List.length_nil, Nat.reduceAdd]
    refine wpAnyH_take (i := 0) (v := ?_) rfl (by kernel_rfl) (by kernel_rfl) (by kernel_rfl) (fun _ _ _ h => h) (Or.inl ⟨by rfl, ?_⟩) hHeld ?_
    rotate_left
    · (intro w hSw; (try dsimp only at hSw); go_simp; try with_reducible rfl)
    try simp only [Act.put, List.setIfInBounds_toArray, List.set_cons_zero, List.set_cons_succ, List.getElem_toArray, List.getElem_cons_zero, List.getElem_cons_succ]
    refine wpAnyH_take (i := 1) (v := ?_) rfl (by kernel_rfl) (by kernel_rfl) (by kernel_rfl) (fun _ _ _ h => h) (Or.inl ⟨by rfl, ?_⟩) hHeld ?_
    rotate_left
    · (intro w hSw; (try dsimp only at hSw); go_simp; try with_reducible rfl)
    try simp only [Act.put, List.setIfInBounds_toArray, List.set_cons_zero, List.set_cons_succ, List.getElem_toArray, List.getElem_cons_zero, List.getElem_cons_succ]
    refine wpAnyH_take (i := 2) (v := ?_) rfl (by kernel_rfl) (by kernel_rfl) (by kernel_rfl) (fun _ _ _ h => h) (Or.inl ⟨by rfl, ?_⟩) hHeld ?_
    rotate_left
    · (intro w hSw; (try dsimp only at hSw); go_simp; try with_reducible rfl)
    try simp only [Act.put, List.setIfInBounds_toArray, List.set_cons_zero, List.set_cons_succ, List.getElem_toArray, List.getElem_cons_zero, List.getElem_cons_succ]
    refine wpAnyH_take (i := 3) (v := ?_) rfl (by kernel_rfl) (by kernel_rfl) (by kernel_rfl) (fun _ _ _ h => h) (Or.inl ⟨by rfl, ?_⟩) hHeld ?_
    rotate_left
    · (intro w hSw; (try dsimp only at hSw); have q1 := K.run_text hSw.2.2.1 k2; go_simp; try with_reducible rfl)
    try simp only [Act.put, List.setIfInBounds_toArray, List.set_cons_zero, List.set_cons_succ, List.getElem_toArray, List.getElem_cons_zero, List.getElem_cons_succ]
    refine wpAnyH_take (i := 4) (v := ?_) rfl (by kernel_rfl) (by kernel_rfl) (by kernel_rfl) (fun _ _ _ h => h) (Or.inl ⟨by rfl, ?_⟩) hHeld ?_
    rotate_left
    · (intro w hSw; (try dsimp only at hSw); go_simp; try with_reducible rfl)
    try simp only [Act.put, List.setIfInBounds_toArray, List.set_cons_zero, List.set_cons_succ, List.getElem_toArray, List.getElem_cons_zero, List.getElem_cons_succ]
    refine wpAnyH_take (i := 5) (v := ?_) rfl (by kernel_rfl) (by kernel_rfl) (by kernel_rfl) (fun _ _ _ h => h) (Or.inl ⟨by rfl, ?_⟩) hHeld ?_
    rotate_left
    · (intro w hSw; (try dsimp only at hSw); have q1 := K.run_text hSw.2.2.2.1 k3; go_simp; try with_reducible rfl)
    try simp only [Act.put, List.setIfInBounds_toArray, List.set_cons_zero, List.set_cons_succ, List.getElem_toArray, List.getElem_cons_zero, List.getElem_cons_succ]
    refine wpAnyH_take (i := 6) (v := ?_) rfl (by kernel_rfl) (by kernel_rfl) (by kernel_rfl) (fun _ _ _ h => h) (Or.inl ⟨by rfl, ?_⟩) hHeld ?_
    rotate_left
    · (intro w hSw; (try dsimp only at hSw); have q0 := HS.out; go_simp; try with_reducible rfl)
    try simp only [Act.put, List.setIfInBounds_toArray, List.set_cons_zero, List.set_cons_succ, List.getElem_toArray, List.getElem_cons_zero, List.getElem_cons_succ]
    refine wpAnyH_take (i := 7) (v := _) rfl (by kernel_rfl) (by kernel_rfl) (by kernel_rfl) (fun _ _ _ h => h) (Or.inl ⟨by rfl, fun w hSw => exec_load_mg rfl rfl hSw.1 HZ1.out⟩) hHeld ?_
    try simp only [Act.put, List.setIfInBounds_toArray, List.set_cons_zero, List.set_cons_succ, List.getElem_toArray, List.getElem_cons_zero, List.getElem_cons_succ]
    refine wpAnyH_take (i := 8) (v := _) rfl (by kernel_rfl) (by kernel_rfl) (by kernel_rfl) (fun _ _ _ h => h) (Or.inl ⟨by rfl, fun w hSw => exec_load_mg rfl rfl hSw.2.1 HZ2.out⟩) hHeld ?_
    try simp only [Act.put, List.setIfInBounds_toArray, List.set_cons_zero, List.set_cons_succ, List.getElem_toArray, List.getElem_cons_zero, List.getElem_cons_succ]
    refine wpAnyH_take (i := 9) (v := ?_) rfl (by kernel_rfl) (by kernel_rfl) (by kernel_rfl) (fun _ _ _ h => h) (Or.inl ⟨by rfl, ?_⟩) hHeld ?_
    rotate_left
    · (intro w hSw; (try dsimp only at hSw); have q0 := HM.out; have q1 := HG.out; go_simp; try with_reducible rfl)
    try simp only [Act.put, List.setIfInBounds_toArray, List.set_cons_zero, List.set_cons_succ, List.getElem_toArray, List.getElem_cons_zero, List.getElem_cons_succ]
    refine wpAnyH_take (i := 10) (v := ?_) rfl (by kernel_rfl) (by kernel_rfl) (by kernel_rfl) (fun _ _ _ h => h) (Or.inl ⟨by rfl, ?_⟩) hHeld ?_
    rotate_left
    · (intro w hSw; (try dsimp only at hSw); go_simp; try with_reducible rfl)
    try simp only [Act.put, List.setIfInBounds_toArray, List.set_cons_zero, List.set_cons_succ, List.getElem_toArray, List.getElem_cons_zero, List.getElem_cons_succ]
    refine wpAnyH_take (i := 11) (v := ?_) rfl (by kernel_rfl) (by kernel_rfl) (by kernel_rfl) (fun _ _ _ h => h) (Or.inl ⟨by rfl, ?_⟩) hHeld ?_
    rotate_left
    · (intro w hSw; (try dsimp only at hSw); go_simp; try with_reducible rfl)
    try simp only [Act.put, List.setIfInBounds_toArray, List.set_cons_zero, List.set_cons_succ, List.getElem_toArray, List.getElem_cons_zero, List.getElem_cons_succ]
    refine wpAnyH_take (i := 12) (v := ?_) rfl (by kernel_rfl) (by kernel_rfl) (by kernel_rfl) (fun _ _ _ h => h) (Or.inl ⟨by rfl, ?_⟩) hHeld ?_
    rotate_left
    · (intro w hSw; (try dsimp only at hSw); go_simp; try with_reducible rfl)
    try simp only [Act.put, List.setIfInBounds_toArray, List.set_cons_zero, List.set_cons_succ, List.getElem_toArray, List.getElem_cons_zero, List.getElem_cons_succ]
    refine wpAnyH_done (by kernel_rfl) ?_ _
    go_wp2_with fail
    go_ret
    exact ⟨rfl, hHeld.2.2.2.2⟩

end Go.Proofs.Ytpdndcmaaghnjaa
