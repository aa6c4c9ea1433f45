/-
  The walk of the law on which messages may be, and their bytes.
-/
import Derived.Test.YtpdndcmaaghnjaaMsReG
import Derived.Test.YtpdndcmaaghnjaaMsAwk
import Derived.Deep.DeepCutAuto
namespace Go.Proofs.Ytpdndcmaaghnjaa
open Go.RowKit
open D (Da Blk)

theorem encL_byt {m : Mg} (ho : m.ok) : D.Byt (encL m) := by
  unfold encL
  split
  · next h => exact enc_byt ((rightB_iff m).1 h) ho
  · exact fun z hz => by cases hz

set_option maxRecDepth 8000 in
set_option maxHeartbeats 1600000 in
theorem encodes_long (m : Mg) (w : World) (ho : m.ok) (h : 2000 < m.path.length) : Calls Try.prog 3 #[m.vl] w fun e w' => e = .returned (.bool true) ∧ Below w.heap.size w w' := by
  have Z0 : Hid (Blk (w.alloc (Obj.cells m.cells.toArray 28)) w.heap.size 28 m.cells) := D.blk_new w _ 28
  have B0 : Hid (Below w.heap.size w (w.alloc (Obj.cells m.cells.toArray 28))) := room1 w _
  have HC : Hid (m.cells[14]? = some (.string (strOfNums m.path))) := m.c14 ho.2.2.1
  have hd : decide ((2000 : Int) < ((strOfNums m.path).size : Int)) = true := decide_eq_true (by rw [strOfNums_size]; omega)
  have hd2 : decide (2000 < (strOfNums m.path).size) = true := decide_eq_true (by rw [strOfNums_size]; exact h)
  unfold Mg.vl
  clear ho h
  generalize m.cells = R at *
  generalize strOfNums m.path = s at *
  go_enter Try.func3, Try.ntmps3
  go_wp2_with (go_at_call 8; refine (awake_any _).mono ?_; rintro e w1 ⟨rfl, b1⟩; have c14 := ((Z0.out.over b1).cell 14).trans HC.out)
  go_ret
  exact ⟨rfl, B0.out.trans (b1.mono B0.out.size)⟩

set_option linter.unusedSimpArgs false in
set_option maxRecDepth 8000 in
set_option maxHeartbeats 4000000 in
theorem encodes_walk (m : Mg) (w : World) (ho : m.ok) : Calls Try.prog 3 #[m.vl] w fun e w' => e = .returned (.bool true) ∧ Below w.heap.size w w' := by
  by_cases hl : 2000 < m.path.length
  · exact encodes_long m w ho hl
  · have Z0 : Hid (Blk (w.alloc (Obj.cells m.cells.toArray 28)) w.heap.size 28 m.cells) := D.blk_new w _ 28
    have B0 : Hid (Below w.heap.size w (w.alloc (Obj.cells m.cells.toArray 28))) := room1 w _
    have HC : Hid (m.cells[14]? = some (.string (strOfNums m.path))) := m.c14 ho.2.2.1
    have HZ : Hid ((Try.prog.info? 28).map (·.size) = some m.cells.toArray.size) := m.size ho.2.2.1
    have hd : decide ((2000 : Int) < ((strOfNums m.path).size : Int)) = false := decide_eq_false (by rw [strOfNums_size]; omega)
    have hd2 : decide (2000 < (strOfNums m.path).size) = false := decide_eq_false (by rw [strOfNums_size]; exact hl)
    have HP : Hid (∀ W : World, Calls Try.prog 9 #[.agg m.cells.toArray] W fun e w' => Below W.heap.size W w' ∧ ∃ v, e = .returned (.tuple #[v, .int .i64 (encE m)]) ∧ w'.ownsRow W.heap.size 5 1 v (encL m).length (K.cellsB (encL m))) := fun W => encode_any m W ho
    have HQ : Hid (∀ W : World, Calls Try.prog 10 #[.agg m.cells.toArray] W fun e w' => Below W.heap.size W w' ∧ ∃ v, e = .returned (.tuple #[v, .int .i64 (encE m)]) ∧ w'.ownsRow W.heap.size 5 1 v (encL m).length (K.cellsB (encL m))) := fun W => refEncode_any m W ho
    have HR1 : Hid (∀ W : World, Calls Try.prog 11 #[.agg m.cells.toArray] W fun e w' => e = .returned (.bool (rightB m)) ∧ Below W.heap.size W w') := fun W => right_any m W ho.2.2.1 ho.2.2.2
    have HR2 : Hid (∀ W : World, Calls Try.prog 12 #[.agg m.cells.toArray] W fun e w' => e = .returned (.bool (rightB m)) ∧ Below W.heap.size W w') := fun W => refRight_any m W ho.2.2.1 ho.2.2.2
    have HY : Hid (D.Byt (encL m)) := encL_byt ho
    have hse : ((strOfNums (encL m)).toList == (strOfNums (encL m)).toList) = true := beq_self_eq_true _
    have hee : (encE m == encE m) = true := beq_self_eq_true _
    have hrr : (rightB m == rightB m) = true := beq_self_eq_true _
    unfold Mg.vl
    clear ho hl
    generalize m.cells = R at *
    generalize strOfNums m.path = s at *
    generalize encE m = en at *
    generalize encL m = L at *
    generalize rightB m = rb at *
    go_enter Try.func3, Try.ntmps3
    go_wp2_with (first | (go_at_call 8; refine (awake_any _).mono ?_; rintro e w1 ⟨rfl, b1⟩; have z1 := Z0.out.over b1; have c14 := (z1.cell 14).trans HC.out; have B1 : Hid (Below w.heap.size w w1) := B0.out.trans (b1.mono B0.out.size); clear b1) | (refine at_op (.load 28 (.tmp 1)) rfl ?_; refine wpList_load_row rfl 28 (.tmp 1) rfl w.heap.size rfl 28 R.toArray (0, 0) _ z1 Try.underlying28 rfl HZ.out ?_))
    refine (HP.out _).mono ?_
    rintro e w2 ⟨b2, v2, rfl, o2⟩
    have z2 := z1.over b2
    have B2 : Hid (Below w.heap.size w w2) := B1.out.trans (b2.mono B1.out.size)
    obtain ⟨a2, k2, rfl, s2, _⟩ := K.owns_bs o2 HY.out
    clear b2 o2 c14 z1 B1
    go_wp2_with (refine at_op (.load 28 (.tmp 1)) rfl ?_; refine wpList_load_row rfl 28 (.tmp 1) rfl w.heap.size rfl 28 R.toArray (0, 0) _ z2 Try.underlying28 rfl HZ.out ?_)
    refine (HQ.out _).mono ?_
    rintro e w3 ⟨b3, v3, rfl, o3⟩
    have z3 := z2.over b3
    have B3 : Hid (Below w.heap.size w w3) := B2.out.trans (b3.mono B2.out.size)
    have s3 := s2.below b3
    obtain ⟨a3, k3, rfl, t3, _⟩ := K.owns_bs o3 HY.out
    clear b3 o3 z2 B2 s2
    go_upto_region 6 with fail
    refine wp_region_held_drew (S := (fun X => Blk X w.heap.size 28 R ∧ K.Bs X a2 L.length L ∧ K.Bs X a3 L.length L ∧ Below w.heap.size w X)) (by kernel_rfl) (⟨z3.drew, s3.below (D.below_drewN w3 1), t3.below (D.below_drewN w3 1), B3.out.drew⟩) (fun hHeld => ?_)
    simp only [List.size_toArray, List.length_cons, List.length_nil, Nat.reduceAdd]
    refine wpAnyH_take (i := 0) (v := ?_) rfl (by kernel_rfl) (by kernel_rfl) (by kernel_rfl) (fun _ _ _ h => h) (Or.inl ⟨by rfl, ?_⟩) hHeld ?_
    rotate_left
    · (intro w hSw; (try dsimp only at hSw); go_simp; try with_reducible rfl)
    try simp only [Act.put, List.setIfInBounds_toArray, List.set_cons_zero, List.set_cons_succ, List.getElem_toArray, List.getElem_cons_zero, List.getElem_cons_succ]
    refine wpAnyH_take (i := 1) (v := ?_) rfl (by kernel_rfl) (by kernel_rfl) (by kernel_rfl) (fun _ _ _ h => h) (Or.inl ⟨by rfl, ?_⟩) hHeld ?_
    rotate_left
    · (intro w hSw; (try dsimp only at hSw); go_simp; try with_reducible rfl)
    try simp only [Act.put, List.setIfInBounds_toArray, List.set_cons_zero, List.set_cons_succ, List.getElem_toArray, List.getElem_cons_zero, List.getElem_cons_succ]
    refine wpAnyH_take (i := 2) (v := _) rfl (by kernel_rfl) (by kernel_rfl) (by kernel_rfl) (fun _ _ _ h => h) (Or.inl ⟨by rfl, fun w hSw => exec_load_mg rfl rfl hSw.1 HZ.out⟩) hHeld ?_
    try simp only [Act.put, List.setIfInBounds_toArray, List.set_cons_zero, List.set_cons_succ, List.getElem_toArray, List.getElem_cons_zero, List.getElem_cons_succ]
    refine wpAnyH_take (i := 4) (v := _) rfl (by kernel_rfl) (by kernel_rfl) (by kernel_rfl) (fun _ _ _ h => h) (Or.inl ⟨by rfl, fun w hSw => exec_load_mg rfl rfl hSw.1 HZ.out⟩) hHeld ?_
    try simp only [Act.put, List.setIfInBounds_toArray, List.set_cons_zero, List.set_cons_succ, List.getElem_toArray, List.getElem_cons_zero, List.getElem_cons_succ]
    refine wpAnyH_ready (rs := [3]) (by kernel_rfl) (by simp) ?_
    refine AllReadyH.cons rfl (fun K hK => ?_) AllReadyH.nil
    go_simp
    refine (HR1.out _).mono ?_
    rintro e w4 ⟨rfl, b4⟩
    go_wp2_with fail
    refine hK.out _ _ (⟨hHeld.1.over b4, hHeld.2.1.below b4, hHeld.2.2.1.below b4, hHeld.2.2.2.trans (b4.mono hHeld.2.2.2.size)⟩) (fun hHeld => ?_)
    clear hK K
    try simp only [Act.put, List.setIfInBounds_toArray, List.set_cons_zero, List.set_cons_succ, List.getElem_toArray, List.getElem_cons_zero, List.getElem_cons_succ]
    refine wpAnyH_ready (rs := [5]) (by kernel_rfl) (by simp) ?_
    refine AllReadyH.cons rfl (fun K hK => ?_) AllReadyH.nil
    go_simp
    refine (HR2.out _).mono ?_
    rintro e w4 ⟨rfl, b4⟩
    go_wp2_with fail
    refine hK.out _ _ (⟨hHeld.1.over b4, hHeld.2.1.below b4, hHeld.2.2.1.below b4, hHeld.2.2.2.trans (b4.mono hHeld.2.2.2.size)⟩) (fun hHeld => ?_)
    clear hK K
    try simp only [Act.put, List.setIfInBounds_toArray, List.set_cons_zero, List.set_cons_succ, List.getElem_toArray, List.getElem_cons_zero, List.getElem_cons_succ]
    refine wpAnyH_take (i := 6) (v := ?_) rfl (by kernel_rfl) (by kernel_rfl) (by kernel_rfl) (fun _ _ _ h => h) (Or.inl ⟨by rfl, ?_⟩) hHeld ?_
    rotate_left
    · (intro w hSw; (try dsimp only at hSw); have q0 := hrr; go_simp; try with_reducible rfl)
    try simp only [Act.put, List.setIfInBounds_toArray, List.set_cons_zero, List.set_cons_succ, List.getElem_toArray, List.getElem_cons_zero, List.getElem_cons_succ]
    refine wpAnyH_take (i := 7) (v := ?_) rfl (by kernel_rfl) (by kernel_rfl) (by kernel_rfl) (fun _ _ _ h => h) (Or.inl ⟨by rfl, ?_⟩) hHeld ?_
    rotate_left
    · (intro w hSw; (try dsimp only at hSw); go_simp; try with_reducible rfl)
    try simp only [Act.put, List.setIfInBounds_toArray, List.set_cons_zero, List.set_cons_succ, List.getElem_toArray, List.getElem_cons_zero, List.getElem_cons_succ]
    refine wpAnyH_take (i := 8) (v := ?_) rfl (by kernel_rfl) (by kernel_rfl) (by kernel_rfl) (fun _ _ _ h => h) (Or.inl ⟨by rfl, ?_⟩) hHeld ?_
    rotate_left
    · (intro w hSw; (try dsimp only at hSw); go_simp; try with_reducible rfl)
    try simp only [Act.put, List.setIfInBounds_toArray, List.set_cons_zero, List.set_cons_succ, List.getElem_toArray, List.getElem_cons_zero, List.getElem_cons_succ]
    refine wpAnyH_take (i := 9) (v := ?_) rfl (by kernel_rfl) (by kernel_rfl) (by kernel_rfl) (fun _ _ _ h => h) (Or.inl ⟨by rfl, ?_⟩) hHeld ?_
    rotate_left
    · (intro w hSw; (try dsimp only at hSw); go_simp; try with_reducible rfl)
    try simp only [Act.put, List.setIfInBounds_toArray, List.set_cons_zero, List.set_cons_succ, List.getElem_toArray, List.getElem_cons_zero, List.getElem_cons_succ]
    refine wpAnyH_take (i := 10) (v := ?_) rfl (by kernel_rfl) (by kernel_rfl) (by kernel_rfl) (fun _ _ _ h => h) (Or.inl ⟨by rfl, ?_⟩) hHeld ?_
    rotate_left
    · (intro w hSw; (try dsimp only at hSw); have q1 := K.run_text hSw.2.1 k2; go_simp; try with_reducible rfl)
    try simp only [Act.put, List.setIfInBounds_toArray, List.set_cons_zero, List.set_cons_succ, List.getElem_toArray, List.getElem_cons_zero, List.getElem_cons_succ]
    refine wpAnyH_take (i := 11) (v := ?_) rfl (by kernel_rfl) (by kernel_rfl) (by kernel_rfl) (fun _ _ _ h => h) (Or.inl ⟨by rfl, ?_⟩) hHeld ?_
    rotate_left
    · (intro w hSw; (try dsimp only at hSw); go_simp; try with_reducible rfl)
    try simp only [Act.put, List.setIfInBounds_toArray, List.set_cons_zero, List.set_cons_succ, List.getElem_toArray, List.getElem_cons_zero, List.getElem_cons_succ]
    refine wpAnyH_take (i := 12) (v := ?_) rfl (by kernel_rfl) (by kernel_rfl) (by kernel_rfl) (fun _ _ _ h => h) (Or.inl ⟨by rfl, ?_⟩) hHeld ?_
    rotate_left
    · (intro w hSw; (try dsimp only at hSw); have q1 := K.run_text hSw.2.2.1 k3; go_simp; try with_reducible rfl)
    try simp only [Act.put, List.setIfInBounds_toArray, List.set_cons_zero, List.set_cons_succ, List.getElem_toArray, List.getElem_cons_zero, List.getElem_cons_succ]
    refine wpAnyH_take (i := 13) (v := ?_) rfl (by kernel_rfl) (by kernel_rfl) (by kernel_rfl) (fun _ _ _ h => h) (Or.inl ⟨by rfl, ?_⟩) hHeld ?_
    rotate_left
    · (intro w hSw; (try dsimp only at hSw); have q0 := hse; go_simp; try with_reducible rfl)
    try simp only [Act.put, List.setIfInBounds_toArray, List.set_cons_zero, List.set_cons_succ, List.getElem_toArray, List.getElem_cons_zero, List.getElem_cons_succ]
    refine wpAnyH_take (i := 14) (v := ?_) rfl (by kernel_rfl) (by kernel_rfl) (by kernel_rfl) (fun _ _ _ h => h) (Or.inl ⟨by rfl, ?_⟩) hHeld ?_
    rotate_left
    · (intro w hSw; (try dsimp only at hSw); go_simp; try with_reducible rfl)
    try simp only [Act.put, List.setIfInBounds_toArray, List.set_cons_zero, List.set_cons_succ, List.getElem_toArray, List.getElem_cons_zero, List.getElem_cons_succ]
    refine wpAnyH_take (i := 15) (v := ?_) rfl (by kernel_rfl) (by kernel_rfl) (by kernel_rfl) (fun _ _ _ h => h) (Or.inl ⟨by rfl, ?_⟩) hHeld ?_
    rotate_left
    · (intro w hSw; (try dsimp only at hSw); go_simp; try with_reducible rfl)
    try simp only [Act.put, List.setIfInBounds_toArray, List.set_cons_zero, List.set_cons_succ, List.getElem_toArray, List.getElem_cons_zero, List.getElem_cons_succ]
    refine wpAnyH_take (i := 16) (v := ?_) rfl (by kernel_rfl) (by kernel_rfl) (by kernel_rfl) (fun _ _ _ h => h) (Or.inl ⟨by rfl, ?_⟩) hHeld ?_
    rotate_left
    · (intro w hSw; (try dsimp only at hSw); go_simp; try with_reducible rfl)
    try simp only [Act.put, List.setIfInBounds_toArray, List.set_cons_zero, List.set_cons_succ, List.getElem_toArray, List.getElem_cons_zero, List.getElem_cons_succ]
    refine wpAnyH_take (i := 17) (v := ?_) rfl (by kernel_rfl) (by kernel_rfl) (by kernel_rfl) (fun _ _ _ h => h) (Or.inl ⟨by rfl, ?_⟩) hHeld ?_
    rotate_left
    · (intro w hSw; (try dsimp only at hSw); go_simp; try with_reducible rfl)
    try simp only [Act.put, List.setIfInBounds_toArray, List.set_cons_zero, List.set_cons_succ, List.getElem_toArray, List.getElem_cons_zero, List.getElem_cons_succ]
    refine wpAnyH_take (i := 18) (v := ?_) rfl (by kernel_rfl) (by kernel_rfl) (by kernel_rfl) (fun _ _ _ h => h) (Or.inl ⟨by rfl, ?_⟩) hHeld ?_
    rotate_left
    · (intro w hSw; (try dsimp only at hSw); have q0 := hee; go_simp; try with_reducible rfl)
    try simp only [Act.put, List.setIfInBounds_toArray, List.set_cons_zero, List.set_cons_succ, List.getElem_toArray, List.getElem_cons_zero, List.getElem_cons_succ]
    refine wpAnyH_take (i := 19) (v := ?_) rfl (by kernel_rfl) (by kernel_rfl) (by kernel_rfl) (fun _ _ _ h => h) (Or.inl ⟨by rfl, ?_⟩) hHeld ?_
    rotate_left
    · (intro w hSw; (try dsimp only at hSw); go_simp; try with_reducible rfl)
    try simp only [Act.put, List.setIfInBounds_toArray, List.set_cons_zero, List.set_cons_succ, List.getElem_toArray, List.getElem_cons_zero, List.getElem_cons_succ]
    refine wpAnyH_take (i := 20) (v := ?_) rfl (by kernel_rfl) (by kernel_rfl) (by kernel_rfl) (fun _ _ _ h => h) (Or.inl ⟨by rfl, ?_⟩) hHeld ?_
    rotate_left
    · (intro w hSw; (try dsimp only at hSw); go_simp; try with_reducible rfl)
    try simp only [Act.put, List.setIfInBounds_toArray, List.set_cons_zero, List.set_cons_succ, List.getElem_toArray, List.getElem_cons_zero, List.getElem_cons_succ]
    refine wpAnyH_done (by kernel_rfl) ?_ _
    go_wp2_with fail
    go_ret
    exact ⟨rfl, hHeld.2.2.2⟩

end Go.Proofs.Ytpdndcmaaghnjaa
