/-
  Texts of this seat, joined: MCHeld, MCHolds, MTab, MTbl, MNrs.
-/
import Derived.Test.YtcckipimfgmmdaaGreatDoorGv23
import Derived.Laws.EntriesVeiled
import Derived.Deep.RegionHeld3

namespace Go.Proofs.YtcckipimfgmmdaaGreatDoor.M
open Go.RowKit

theorem condR4_any (a o m v : Int) (w : World) :
    Calls Tryz.prog 102 #[.agg #[.int .i64 a, .int .i64 o, .int .u64 m, .int .u64 v]] w fun e w' => e = .returned (.bool (rightB a o)) ∧ Below w.heap.size w w' := by
  have HB : Hid (∀ o, Below w.heap.size w (w.alloc o)) := below_new w
  go_enter Tryz.func102, Tryz.ntmps102
  go_wp2
  all_goals (go_ret; exact ⟨ret_bool (by simp [rightB, *] <;> omega), HB.out _⟩)

theorem same_any (x v : Int) (w : World) : Calls Tryz.prog 170 #[.int .u64 x, .int .u64 v] w fun e w' => e = .returned (.bool (heldB 1 x v)) ∧ w' = w := by
  go_enter Tryz.func170, Tryz.ntmps170
  go_wp2
  go_ret
  exact ⟨ret_bool (by simp [heldB]), rfl⟩

theorem differs_any (x v : Int) (w : World) : Calls Tryz.prog 171 #[.int .u64 x, .int .u64 v] w fun e w' => e = .returned (.bool (heldB 2 x v)) ∧ w' = w := by
  go_enter Tryz.func171, Tryz.ntmps171
  go_wp2
  go_ret
  exact ⟨rfl, rfl⟩

theorem less_any (x v : Int) (w : World) : Calls Tryz.prog 172 #[.int .u64 x, .int .u64 v] w fun e w' => e = .returned (.bool (heldB 3 x v)) ∧ w' = w := by
  go_enter Tryz.func172, Tryz.ntmps172
  go_wp2
  go_ret
  exact ⟨ret_bool (by simp [heldB]), rfl⟩

theorem atMost_any (x v : Int) (w : World) : Calls Tryz.prog 173 #[.int .u64 x, .int .u64 v] w fun e w' => e = .returned (.bool (heldB 4 x v)) ∧ w' = w := by
  go_enter Tryz.func173, Tryz.ntmps173
  go_wp2
  go_ret
  exact ⟨ret_bool (by simp [heldB]), rfl⟩

theorem greater_any (x v : Int) (w : World) : Calls Tryz.prog 174 #[.int .u64 x, .int .u64 v] w fun e w' => e = .returned (.bool (heldB 5 x v)) ∧ w' = w := by
  go_enter Tryz.func174, Tryz.ntmps174
  go_wp2
  go_ret
  exact ⟨ret_bool (by simp [heldB]), rfl⟩

theorem atLeast_any (x v : Int) (w : World) : Calls Tryz.prog 175 #[.int .u64 x, .int .u64 v] w fun e w' => e = .returned (.bool (heldB 6 x v)) ∧ w' = w := by
  go_enter Tryz.func175, Tryz.ntmps175
  go_wp2
  go_ret
  exact ⟨ret_bool (by simp [heldB]), rfl⟩

theorem comparisons_any (w : World) :
    Calls Tryz.prog 154 #[] w fun e w' => e = .returned (.agg #[.nilFunc, .func (.func 170) #[] #[], .func (.func 171) #[] #[], .func (.func 172) #[] #[], .func (.func 173) #[] #[], .func (.func 174) #[] #[], .func (.func 175) #[] #[]]) ∧ Below w.heap.size w w' := by
  have HB : Hid (∀ o, Below w.heap.size w (w.alloc o)) := below_new w
  go_enter Tryz.func154, Tryz.ntmps154
  go_wp2
  refine bodyPost_ret (v := .agg #[.nilFunc, .func (.func 170) #[] #[], .func (.func 171) #[] #[], .func (.func 172) #[] #[], .func (.func 173) #[] #[], .func (.func 174) #[] #[], .func (.func 175) #[] #[]]) (by simp [results, Tryz.results154, go_sem]) rfl ⟨rfl, ?_⟩
  exact HB.out _

theorem held_any (o x m v : Int) (w : World) (h1 : 1 ≤ o) (h6 : o ≤ 6) :
    Calls Tryz.prog 129 #[.int .i64 o, .int .u64 x, .int .u64 m, .int .u64 v] w fun e w' => e = .returned (.bool (heldB o (an x m) v)) ∧ Below w.heap.size w w' := by
  have HC : Hid (∀ W : World, Calls Tryz.prog 154 #[] W fun e w' => e = .returned (.agg #[.nilFunc, .func (.func 170) #[] #[], .func (.func 171) #[] #[], .func (.func 172) #[] #[], .func (.func 173) #[] #[], .func (.func 174) #[] #[], .func (.func 175) #[] #[]]) ∧ Below W.heap.size W w') := comparisons_any
  have ea : bits BinOp.and IntKind.u64 x m = an x m := rfl
  have G1 : Hid (∀ W : World, Calls Tryz.prog 170 #[.int .u64 (an x m), .int .u64 v] W fun e w' => e = .returned (.bool (heldB 1 (an x m) v)) ∧ w' = W) := fun W => same_any _ _ W
  have G2 : Hid (∀ W : World, Calls Tryz.prog 171 #[.int .u64 (an x m), .int .u64 v] W fun e w' => e = .returned (.bool (heldB 2 (an x m) v)) ∧ w' = W) := fun W => differs_any _ _ W
  have G3 : Hid (∀ W : World, Calls Tryz.prog 172 #[.int .u64 (an x m), .int .u64 v] W fun e w' => e = .returned (.bool (heldB 3 (an x m) v)) ∧ w' = W) := fun W => less_any _ _ W
  have G4 : Hid (∀ W : World, Calls Tryz.prog 173 #[.int .u64 (an x m), .int .u64 v] W fun e w' => e = .returned (.bool (heldB 4 (an x m) v)) ∧ w' = W) := fun W => atMost_any _ _ W
  have G5 : Hid (∀ W : World, Calls Tryz.prog 174 #[.int .u64 (an x m), .int .u64 v] W fun e w' => e = .returned (.bool (heldB 5 (an x m) v)) ∧ w' = W) := fun W => greater_any _ _ W
  have G6 : Hid (∀ W : World, Calls Tryz.prog 175 #[.int .u64 (an x m), .int .u64 v] W fun e w' => e = .returned (.bool (heldB 6 (an x m) v)) ∧ w' = W) := fun W => atLeast_any _ _ W
  generalize an x m = y at *
  rcases six h1 h6 with rfl | rfl | rfl | rfl | rfl | rfl
  · clear h1 h6 G2 G3 G4 G5 G6
    have hi : ∀ W : World, (Instr.index 222 (.agg #[.nilFunc, .func (.func 170) #[] #[], .func (.func 171) #[] #[], .func (.func 172) #[] #[], .func (.func 173) #[] #[], .func (.func 174) #[] #[], .func (.func 175) #[] #[]]) (.int .i64 1)).run Tryz.prog W = .ok (.func (.func 170) #[] #[]) W := fun W => by kernel_rfl
    go_enter Tryz.func129, Tryz.ntmps129
    go_wp2_with (first | (go_at_call 154; refine (HC.out _).mono ?_; rintro e w1 ⟨rfl, b1⟩) | (go_at_call 170; refine (G1.out _).mono ?_; rintro e w2 ⟨rfl, rfl⟩))
    go_ret
    exact ⟨rfl, b1⟩
  · clear h1 h6 G1 G3 G4 G5 G6
    have hi : ∀ W : World, (Instr.index 222 (.agg #[.nilFunc, .func (.func 170) #[] #[], .func (.func 171) #[] #[], .func (.func 172) #[] #[], .func (.func 173) #[] #[], .func (.func 174) #[] #[], .func (.func 175) #[] #[]]) (.int .i64 2)).run Tryz.prog W = .ok (.func (.func 171) #[] #[]) W := fun W => by kernel_rfl
    go_enter Tryz.func129, Tryz.ntmps129
    go_wp2_with (first | (go_at_call 154; refine (HC.out _).mono ?_; rintro e w1 ⟨rfl, b1⟩) | (go_at_call 171; refine (G2.out _).mono ?_; rintro e w2 ⟨rfl, rfl⟩))
    go_ret
    exact ⟨rfl, b1⟩
  · clear h1 h6 G1 G2 G4 G5 G6
    have hi : ∀ W : World, (Instr.index 222 (.agg #[.nilFunc, .func (.func 170) #[] #[], .func (.func 171) #[] #[], .func (.func 172) #[] #[], .func (.func 173) #[] #[], .func (.func 174) #[] #[], .func (.func 175) #[] #[]]) (.int .i64 3)).run Tryz.prog W = .ok (.func (.func 172) #[] #[]) W := fun W => by kernel_rfl
    go_enter Tryz.func129, Tryz.ntmps129
    go_wp2_with (first | (go_at_call 154; refine (HC.out _).mono ?_; rintro e w1 ⟨rfl, b1⟩) | (go_at_call 172; refine (G3.out _).mono ?_; rintro e w2 ⟨rfl, rfl⟩))
    go_ret
    exact ⟨rfl, b1⟩
  · clear h1 h6 G1 G2 G3 G5 G6
    have hi : ∀ W : World, (Instr.index 222 (.agg #[.nilFunc, .func (.func 170) #[] #[], .func (.func 171) #[] #[], .func (.func 172) #[] #[], .func (.func 173) #[] #[], .func (.func 174) #[] #[], .func (.func 175) #[] #[]]) (.int .i64 4)).run Tryz.prog W = .ok (.func (.func 173) #[] #[]) W := fun W => by kernel_rfl
    go_enter Tryz.func129, Tryz.ntmps129
    go_wp2_with (first | (go_at_call 154; refine (HC.out _).mono ?_; rintro e w1 ⟨rfl, b1⟩) | (go_at_call 173; refine (G4.out _).mono ?_; rintro e w2 ⟨rfl, rfl⟩))
    go_ret
    exact ⟨rfl, b1⟩
  · clear h1 h6 G1 G2 G3 G4 G6
    have hi : ∀ W : World, (Instr.index 222 (.agg #[.nilFunc, .func (.func 170) #[] #[], .func (.func 171) #[] #[], .func (.func 172) #[] #[], .func (.func 173) #[] #[], .func (.func 174) #[] #[], .func (.func 175) #[] #[]]) (.int .i64 5)).run Tryz.prog W = .ok (.func (.func 174) #[] #[]) W := fun W => by kernel_rfl
    go_enter Tryz.func129, Tryz.ntmps129
    go_wp2_with (first | (go_at_call 154; refine (HC.out _).mono ?_; rintro e w1 ⟨rfl, b1⟩) | (go_at_call 174; refine (G5.out _).mono ?_; rintro e w2 ⟨rfl, rfl⟩))
    go_ret
    exact ⟨rfl, b1⟩
  · clear h1 h6 G1 G2 G3 G4 G5
    have hi : ∀ W : World, (Instr.index 222 (.agg #[.nilFunc, .func (.func 170) #[] #[], .func (.func 171) #[] #[], .func (.func 172) #[] #[], .func (.func 173) #[] #[], .func (.func 174) #[] #[], .func (.func 175) #[] #[]]) (.int .i64 6)).run Tryz.prog W = .ok (.func (.func 175) #[] #[]) W := fun W => by kernel_rfl
    go_enter Tryz.func129, Tryz.ntmps129
    go_wp2_with (first | (go_at_call 154; refine (HC.out _).mono ?_; rintro e w1 ⟨rfl, b1⟩) | (go_at_call 175; refine (G6.out _).mono ?_; rintro e w2 ⟨rfl, rfl⟩))
    go_ret
    exact ⟨rfl, b1⟩

end Go.Proofs.YtcckipimfgmmdaaGreatDoor.M

namespace Go.Proofs.YtcckipimfgmmdaaGreatDoor.M
open Go.RowKit

theorem two_new (w : World) (l A : List Value) : Blk ((w.alloc (Obj.cells l.toArray 139)).alloc (Obj.cells A.toArray 27)) w.heap.size 139 l ∧ Blk ((w.alloc (Obj.cells l.toArray 139)).alloc (Obj.cells A.toArray 27)) (w.heap.size + 1) 27 A ∧ Below w.heap.size w ((w.alloc (Obj.cells l.toArray 139)).alloc (Obj.cells A.toArray 27)) :=
  ⟨(blk_new w _ 139).alloc _, blk_new' w _ _ 27, room_below w _ _⟩

set_option linter.unusedSimpArgs false in
set_option maxHeartbeats 800000 in
theorem holds_wrong (a o m v : Int) (A : List Value) (w : World) (hr : rightB a o = false) :
    Calls Tryz.prog 97 #[(.agg #[.int .i64 a, .int .i64 o, .int .u64 m, .int .u64 v]), .agg A.toArray] w fun e w' => e = .returned (.bool false) ∧ Below w.heap.size w w' := by
  have HR : Hid (∀ W : World, Calls Tryz.prog 102 #[(.agg #[.int .i64 a, .int .i64 o, .int .u64 m, .int .u64 v])] W fun e w' => e = .returned (.bool false) ∧ Below W.heap.size W w') := fun W => hr ▸ condR4_any a o m v W
  have HK := two_new w [.int .i64 a, .int .i64 o, .int .u64 m, .int .u64 v] A
  clear hr
  go_enter Tryz.func97, Tryz.ntmps97
  go_wp2_with fail
  generalize (w.alloc (Obj.cells #[.int .i64 a, .int .i64 o, .int .u64 m, .int .u64 v] 139)).alloc (Obj.cells A.toArray 27) = W0 at *
  generalize hB1 : w.heap.size = B1 at *
  generalize hB2 : B1 + 1 = B2 at *
  refine wp_region_held_drew (S := (fun X => Blk X B1 139 [.int .i64 a, .int .i64 o, .int .u64 m, .int .u64 v] ∧ Blk X B2 27 A ∧ Below B1 w X)) (by kernel_rfl) (⟨HK.1.drew, HK.2.1.drew, HK.2.2.drew⟩) (fun hHeld => ?_)
  simp only [List.size_toArray, List.length_cons, List.length_nil, Nat.reduceAdd]
  refine wpAnyH_take (i := 0) (v := ?_) rfl (by kernel_rfl) (by kernel_rfl) (by kernel_rfl) (fun _ _ _ h => h) (Or.inl ⟨by rfl, ?_⟩) hHeld ?_
  rotate_left
  · (intro w hSw; (try dsimp only at hSw); have s0 := hSw.1.cell 0; have s1 := hSw.1.cell 1; have s2 := hSw.1.cell 2; have s3 := hSw.1.cell 3; go_simp; try with_reducible rfl)
  try simp only [Act.put, List.setIfInBounds_toArray, List.set_cons_zero, List.set_cons_succ, List.getElem_toArray, List.getElem_cons_zero, List.getElem_cons_succ]
  refine wpAnyH_ready (rs := [1]) (by kernel_rfl) (by simp) ?_
  refine AllReadyH.cons rfl (fun K hK => ?_) AllReadyH.nil
  go_simp
  refine (HR.out _).mono ?_
  rintro e w1 ⟨rfl, b1⟩
  go_wp2_with fail
  refine hK.out _ _ (⟨hHeld.1.over b1, hHeld.2.1.over b1, hHeld.2.2.trans (b1.mono (hB1 ▸ hHeld.2.2.size))⟩) (fun hHeld => ?_)
  clear hK K
  try simp only [Act.put, List.setIfInBounds_toArray, List.set_cons_zero, List.set_cons_succ, List.getElem_toArray, List.getElem_cons_zero, List.getElem_cons_succ]
  refine wpAnyH_take (i := 2) (v := ?_) rfl (by kernel_rfl) (by kernel_rfl) (by kernel_rfl) (fun _ _ _ h => h) (Or.inl ⟨by rfl, ?_⟩) hHeld ?_
  rotate_left
  · (intro w hSw; (try dsimp only at hSw); go_simp; try with_reducible rfl)
  try simp only [Act.put, List.setIfInBounds_toArray, List.set_cons_zero, List.set_cons_succ, List.getElem_toArray, List.getElem_cons_zero, List.getElem_cons_succ]
  refine wpAnyH_take (i := 3) (v := undef) rfl (by kernel_rfl) (by kernel_rfl) (by kernel_rfl) (fun _ _ _ h => h) (Or.inr ⟨by rfl, rfl⟩) hHeld ?_
  try simp only [Act.put, List.setIfInBounds_toArray, List.set_cons_zero, List.set_cons_succ, List.getElem_toArray, List.getElem_cons_zero, List.getElem_cons_succ]
  refine wpAnyH_take (i := 4) (v := undef) rfl (by kernel_rfl) (by kernel_rfl) (by kernel_rfl) (fun _ _ _ h => h) (Or.inr ⟨by rfl, rfl⟩) hHeld ?_
  try simp only [Act.put, List.setIfInBounds_toArray, List.set_cons_zero, List.set_cons_succ, List.getElem_toArray, List.getElem_cons_zero, List.getElem_cons_succ]
  refine wpAnyH_take (i := 5) (v := undef) rfl (by kernel_rfl) (by kernel_rfl) (by kernel_rfl) (fun _ _ _ h => h) (Or.inr ⟨by rfl, rfl⟩) hHeld ?_
  try simp only [Act.put, List.setIfInBounds_toArray, List.set_cons_zero, List.set_cons_succ, List.getElem_toArray, List.getElem_cons_zero, List.getElem_cons_succ]
  refine wpAnyH_take (i := 6) (v := undef) rfl (by kernel_rfl) (by kernel_rfl) (by kernel_rfl) (fun _ _ _ h => h) (Or.inr ⟨by rfl, rfl⟩) hHeld ?_
  try simp only [Act.put, List.setIfInBounds_toArray, List.set_cons_zero, List.set_cons_succ, List.getElem_toArray, List.getElem_cons_zero, List.getElem_cons_succ]
  refine wpAnyH_take (i := 7) (v := undef) rfl (by kernel_rfl) (by kernel_rfl) (by kernel_rfl) (fun _ _ _ h => h) (Or.inr ⟨by rfl, rfl⟩) hHeld ?_
  try simp only [Act.put, List.setIfInBounds_toArray, List.set_cons_zero, List.set_cons_succ, List.getElem_toArray, List.getElem_cons_zero, List.getElem_cons_succ]
  refine wpAnyH_take (i := 8) (v := undef) rfl (by kernel_rfl) (by kernel_rfl) (by kernel_rfl) (fun _ _ _ h => h) (Or.inr ⟨by rfl, rfl⟩) hHeld ?_
  try simp only [Act.put, List.setIfInBounds_toArray, List.set_cons_zero, List.set_cons_succ, List.getElem_toArray, List.getElem_cons_zero, List.getElem_cons_succ]
  refine wpAnyH_take (i := 9) (v := undef) rfl (by kernel_rfl) (by kernel_rfl) (by kernel_rfl) (fun _ _ _ h => h) (Or.inr ⟨by rfl, rfl⟩) hHeld ?_
  try simp only [Act.put, List.setIfInBounds_toArray, List.set_cons_zero, List.set_cons_succ, List.getElem_toArray, List.getElem_cons_zero, List.getElem_cons_succ]
  refine wpAnyH_take (i := 10) (v := undef) rfl (by kernel_rfl) (by kernel_rfl) (by kernel_rfl) (fun _ _ _ h => h) (Or.inr ⟨by rfl, rfl⟩) hHeld ?_
  try simp only [Act.put, List.setIfInBounds_toArray, List.set_cons_zero, List.set_cons_succ, List.getElem_toArray, List.getElem_cons_zero, List.getElem_cons_succ]
  refine wpAnyH_take (i := 11) (v := undef) rfl (by kernel_rfl) (by kernel_rfl) (by kernel_rfl) (fun _ _ _ h => h) (Or.inr ⟨by rfl, rfl⟩) hHeld ?_
  try simp only [Act.put, List.setIfInBounds_toArray, List.set_cons_zero, List.set_cons_succ, List.getElem_toArray, List.getElem_cons_zero, List.getElem_cons_succ]
  refine wpAnyH_take (i := 12) (v := undef) rfl (by kernel_rfl) (by kernel_rfl) (by kernel_rfl) (fun _ _ _ h => h) (Or.inr ⟨by rfl, rfl⟩) hHeld ?_
  try simp only [Act.put, List.setIfInBounds_toArray, List.set_cons_zero, List.set_cons_succ, List.getElem_toArray, List.getElem_cons_zero, List.getElem_cons_succ]
  refine wpAnyH_take (i := 13) (v := undef) rfl (by kernel_rfl) (by kernel_rfl) (by kernel_rfl) (fun _ _ _ h => h) (Or.inr ⟨by rfl, rfl⟩) hHeld ?_
  try simp only [Act.put, List.setIfInBounds_toArray, List.set_cons_zero, List.set_cons_succ, List.getElem_toArray, List.getElem_cons_zero, List.getElem_cons_succ]
  refine wpAnyH_take (i := 14) (v := undef) rfl (by kernel_rfl) (by kernel_rfl) (by kernel_rfl) (fun _ _ _ h => h) (Or.inr ⟨by rfl, rfl⟩) hHeld ?_
  try simp only [Act.put, List.setIfInBounds_toArray, List.set_cons_zero, List.set_cons_succ, List.getElem_toArray, List.getElem_cons_zero, List.getElem_cons_succ]
  refine wpAnyH_take (i := 15) (v := ?_) rfl (by kernel_rfl) (by kernel_rfl) (by kernel_rfl) (fun _ _ _ h => h) (Or.inl ⟨by rfl, ?_⟩) hHeld ?_
  rotate_left
  · (intro w hSw; (try dsimp only at hSw); go_simp; try with_reducible rfl)
  try simp only [Act.put, List.setIfInBounds_toArray, List.set_cons_zero, List.set_cons_succ, List.getElem_toArray, List.getElem_cons_zero, List.getElem_cons_succ]
  refine wpAnyH_take (i := 16) (v := ?_) rfl (by kernel_rfl) (by kernel_rfl) (by kernel_rfl) (fun _ _ _ h => h) (Or.inl ⟨by rfl, ?_⟩) hHeld ?_
  rotate_left
  · (intro w hSw; (try dsimp only at hSw); go_simp; try with_reducible rfl)
  try simp only [Act.put, List.setIfInBounds_toArray, List.set_cons_zero, List.set_cons_succ, List.getElem_toArray, List.getElem_cons_zero, List.getElem_cons_succ]
  refine wpAnyH_done (by kernel_rfl) ?_ _
  go_wp2_with fail
  go_ret
  exact ⟨rfl, by rw [hB1]; exact hHeld.2.2⟩

set_option linter.unusedSimpArgs false in
set_option maxHeartbeats 1600000 in
theorem holds_right (k : Nat) (o m v x : Int) (A : List Value) (w : World) (hk : k < 6) (hr : rightB k o = true) (hA : A[3 + k]? = some (.int .u64 x)) :
    Calls Tryz.prog 97 #[(.agg #[.int .i64 (k : Int), .int .i64 o, .int .u64 m, .int .u64 v]), .agg A.toArray] w fun e w' => e = .returned (.bool (heldB o (an x m) v)) ∧ Below w.heap.size w w' := by
  have HR : Hid (∀ W : World, Calls Tryz.prog 102 #[(.agg #[.int .i64 (k : Int), .int .i64 o, .int .u64 m, .int .u64 v])] W fun e w' => e = .returned (.bool true) ∧ Below W.heap.size W w') := fun W => hr ▸ condR4_any k o m v W
  have HL : Hid (∀ W : World, Calls Tryz.prog 129 #[.int .i64 o, .int .u64 x, .int .u64 m, .int .u64 v] W fun e w' => e = .returned (.bool (heldB o (an x m) v)) ∧ Below W.heap.size W w') := fun W => held_any o x m v W (right_bd hr).2.2.1 (right_bd hr).2.2.2
  have HK := two_new w [.int .i64 (k : Int), .int .i64 o, .int .u64 m, .int .u64 v] A
  have HA : Hid (∀ X b, Blk X b 27 A → X.cell? ⟨b, 3 + k, none⟩ = some (.int .u64 x)) := fun X b h => (h.cell (3 + k)).trans hA
  have k1 : (0 : Int) ≤ (k : Int) := by omega
  have k2 : (k : Int) < 6 := by omega
  clear hr hA
  generalize heldB o (an x m) v = q at *
  go_enter Tryz.func97, Tryz.ntmps97
  go_wp2_with fail
  generalize (w.alloc (Obj.cells #[.int .i64 (k : Int), .int .i64 o, .int .u64 m, .int .u64 v] 139)).alloc (Obj.cells A.toArray 27) = W0 at *
  generalize hB1 : w.heap.size = B1 at *
  generalize hB2 : B1 + 1 = B2 at *
  refine wp_region_held_drew (S := (fun X => Blk X B1 139 [.int .i64 (k : Int), .int .i64 o, .int .u64 m, .int .u64 v] ∧ Blk X B2 27 A ∧ Below B1 w X)) (by kernel_rfl) (⟨HK.1.drew, HK.2.1.drew, HK.2.2.drew⟩) (fun hHeld => ?_)
  simp only [List.size_toArray, List.length_cons, List.length_nil, Nat.reduceAdd]
  refine wpAnyH_take (i := 0) (v := ?_) rfl (by kernel_rfl) (by kernel_rfl) (by kernel_rfl) (fun _ _ _ h => h) (Or.inl ⟨by rfl, ?_⟩) hHeld ?_
  rotate_left
  · (intro w hSw; (try dsimp only at hSw); have s0 := hSw.1.cell 0; have s1 := hSw.1.cell 1; have s2 := hSw.1.cell 2; have s3 := hSw.1.cell 3; go_simp; try with_reducible rfl)
  try simp only [Act.put, List.setIfInBounds_toArray, List.set_cons_zero, List.set_cons_succ, List.getElem_toArray, List.getElem_cons_zero, List.getElem_cons_succ]
  refine wpAnyH_ready (rs := [1]) (by kernel_rfl) (by simp) ?_
  refine AllReadyH.cons rfl (fun K hK => ?_) AllReadyH.nil
  go_simp
  refine (HR.out _).mono ?_
  rintro e w1 ⟨rfl, b1⟩
  go_wp2_with fail
  refine hK.out _ _ (⟨hHeld.1.over b1, hHeld.2.1.over b1, hHeld.2.2.trans (b1.mono (hB1 ▸ hHeld.2.2.size))⟩) (fun hHeld => ?_)
  clear hK K
  try simp only [Act.put, List.setIfInBounds_toArray, List.set_cons_zero, List.set_cons_succ, List.getElem_toArray, List.getElem_cons_zero, List.getElem_cons_succ]
  refine wpAnyH_take (i := 2) (v := ?_) rfl (by kernel_rfl) (by kernel_rfl) (by kernel_rfl) (fun _ _ _ h => h) (Or.inl ⟨by rfl, ?_⟩) hHeld ?_
  rotate_left
  · (intro w hSw; (try dsimp only at hSw); go_simp; try with_reducible rfl)
  try simp only [Act.put, List.setIfInBounds_toArray, List.set_cons_zero, List.set_cons_succ, List.getElem_toArray, List.getElem_cons_zero, List.getElem_cons_succ]
  refine wpAnyH_take (i := 3) (v := ?_) rfl (by kernel_rfl) (by kernel_rfl) (by kernel_rfl) (fun _ _ _ h => h) (Or.inl ⟨by rfl, ?_⟩) hHeld ?_
  rotate_left
  · (intro w hSw; (try dsimp only at hSw); have s0 := hSw.1.cell 0; have s1 := hSw.1.cell 1; have s2 := hSw.1.cell 2; have s3 := hSw.1.cell 3; go_simp; try with_reducible rfl)
  try simp only [Act.put, List.setIfInBounds_toArray, List.set_cons_zero, List.set_cons_succ, List.getElem_toArray, List.getElem_cons_zero, List.getElem_cons_succ]
  refine wpAnyH_take (i := 4) (v := ?_) rfl (by kernel_rfl) (by kernel_rfl) (by kernel_rfl) (fun _ _ _ h => h) (Or.inl ⟨by rfl, ?_⟩) hHeld ?_
  rotate_left
  · (intro w hSw; (try dsimp only at hSw); have s0 := hSw.1.cell 0; have s1 := hSw.1.cell 1; have s2 := hSw.1.cell 2; have s3 := hSw.1.cell 3; go_simp; try with_reducible rfl)
  try simp only [Act.put, List.setIfInBounds_toArray, List.set_cons_zero, List.set_cons_succ, List.getElem_toArray, List.getElem_cons_zero, List.getElem_cons_succ]
  refine wpAnyH_take (i := 5) (v := ?_) rfl (by kernel_rfl) (by kernel_rfl) (by kernel_rfl) (fun _ _ _ h => h) (Or.inl ⟨by rfl, ?_⟩) hHeld ?_
  rotate_left
  · (intro w hSw; (try dsimp only at hSw); have s0 := hSw.1.cell 0; have s1 := hSw.1.cell 1; have s2 := hSw.1.cell 2; have s3 := hSw.1.cell 3; go_simp; try with_reducible rfl)
  try simp only [Act.put, List.setIfInBounds_toArray, List.set_cons_zero, List.set_cons_succ, List.getElem_toArray, List.getElem_cons_zero, List.getElem_cons_succ]
  refine wpAnyH_take (i := 6) (v := ?_) rfl (by kernel_rfl) (by kernel_rfl) (by kernel_rfl) (fun _ _ _ h => h) (Or.inl ⟨by rfl, ?_⟩) hHeld ?_
  rotate_left
  · (intro w hSw; (try dsimp only at hSw); have s0 := hSw.1.cell 0; have s1 := hSw.1.cell 1; have s2 := hSw.1.cell 2; have s3 := hSw.1.cell 3; go_simp; try with_reducible rfl)
  try simp only [Act.put, List.setIfInBounds_toArray, List.set_cons_zero, List.set_cons_succ, List.getElem_toArray, List.getElem_cons_zero, List.getElem_cons_succ]
  refine wpAnyH_take (i := 7) (v := ?_) rfl (by kernel_rfl) (by kernel_rfl) (by kernel_rfl) (fun _ _ _ h => h) (Or.inl ⟨by rfl, ?_⟩) hHeld ?_
  rotate_left
  · (intro w hSw; (try dsimp only at hSw); have s0 := hSw.1.cell 0; have s1 := hSw.1.cell 1; have s2 := hSw.1.cell 2; have s3 := hSw.1.cell 3; go_simp; try with_reducible rfl)
  try simp only [Act.put, List.setIfInBounds_toArray, List.set_cons_zero, List.set_cons_succ, List.getElem_toArray, List.getElem_cons_zero, List.getElem_cons_succ]
  refine wpAnyH_take (i := 8) (v := ?_) rfl (by kernel_rfl) (by kernel_rfl) (by kernel_rfl) (fun _ _ _ h => h) (Or.inl ⟨by rfl, ?_⟩) hHeld ?_
  rotate_left
  · (intro w hSw; (try dsimp only at hSw); go_simp; try with_reducible rfl)
  try simp only [Act.put, List.setIfInBounds_toArray, List.set_cons_zero, List.set_cons_succ, List.getElem_toArray, List.getElem_cons_zero, List.getElem_cons_succ]
  refine wpAnyH_take (i := 9) (v := ?_) rfl (by kernel_rfl) (by kernel_rfl) (by kernel_rfl) (fun _ _ _ h => h) (Or.inl ⟨by rfl, ?_⟩) hHeld ?_
  rotate_left
  · (intro w hSw; (try dsimp only at hSw); have sx := HA.out _ _ hSw.2.1; go_simp; try with_reducible rfl)
  try simp only [Act.put, List.setIfInBounds_toArray, List.set_cons_zero, List.set_cons_succ, List.getElem_toArray, List.getElem_cons_zero, List.getElem_cons_succ]
  refine wpAnyH_take (i := 10) (v := ?_) rfl (by kernel_rfl) (by kernel_rfl) (by kernel_rfl) (fun _ _ _ h => h) (Or.inl ⟨by rfl, ?_⟩) hHeld ?_
  rotate_left
  · (intro w hSw; (try dsimp only at hSw); have s0 := hSw.1.cell 0; have s1 := hSw.1.cell 1; have s2 := hSw.1.cell 2; have s3 := hSw.1.cell 3; go_simp; try with_reducible rfl)
  try simp only [Act.put, List.setIfInBounds_toArray, List.set_cons_zero, List.set_cons_succ, List.getElem_toArray, List.getElem_cons_zero, List.getElem_cons_succ]
  refine wpAnyH_take (i := 11) (v := ?_) rfl (by kernel_rfl) (by kernel_rfl) (by kernel_rfl) (fun _ _ _ h => h) (Or.inl ⟨by rfl, ?_⟩) hHeld ?_
  rotate_left
  · (intro w hSw; (try dsimp only at hSw); have s0 := hSw.1.cell 0; have s1 := hSw.1.cell 1; have s2 := hSw.1.cell 2; have s3 := hSw.1.cell 3; go_simp; try with_reducible rfl)
  try simp only [Act.put, List.setIfInBounds_toArray, List.set_cons_zero, List.set_cons_succ, List.getElem_toArray, List.getElem_cons_zero, List.getElem_cons_succ]
  refine wpAnyH_take (i := 12) (v := ?_) rfl (by kernel_rfl) (by kernel_rfl) (by kernel_rfl) (fun _ _ _ h => h) (Or.inl ⟨by rfl, ?_⟩) hHeld ?_
  rotate_left
  · (intro w hSw; (try dsimp only at hSw); have s0 := hSw.1.cell 0; have s1 := hSw.1.cell 1; have s2 := hSw.1.cell 2; have s3 := hSw.1.cell 3; go_simp; try with_reducible rfl)
  try simp only [Act.put, List.setIfInBounds_toArray, List.set_cons_zero, List.set_cons_succ, List.getElem_toArray, List.getElem_cons_zero, List.getElem_cons_succ]
  refine wpAnyH_take (i := 13) (v := ?_) rfl (by kernel_rfl) (by kernel_rfl) (by kernel_rfl) (fun _ _ _ h => h) (Or.inl ⟨by rfl, ?_⟩) hHeld ?_
  rotate_left
  · (intro w hSw; (try dsimp only at hSw); have s0 := hSw.1.cell 0; have s1 := hSw.1.cell 1; have s2 := hSw.1.cell 2; have s3 := hSw.1.cell 3; go_simp; try with_reducible rfl)
  try simp only [Act.put, List.setIfInBounds_toArray, List.set_cons_zero, List.set_cons_succ, List.getElem_toArray, List.getElem_cons_zero, List.getElem_cons_succ]
  refine wpAnyH_ready (rs := [14]) (by kernel_rfl) (by simp) ?_
  refine AllReadyH.cons rfl (fun K hK => ?_) AllReadyH.nil
  go_simp
  refine (HL.out _).mono ?_
  rintro e w2 ⟨rfl, b2⟩
  go_wp2_with fail
  refine hK.out _ _ (⟨hHeld.1.over b2, hHeld.2.1.over b2, hHeld.2.2.trans (b2.mono (hB1 ▸ hHeld.2.2.size))⟩) (fun hHeld => ?_)
  clear hK K
  try simp only [Act.put, List.setIfInBounds_toArray, List.set_cons_zero, List.set_cons_succ, List.getElem_toArray, List.getElem_cons_zero, List.getElem_cons_succ]
  refine wpAnyH_take (i := 15) (v := ?_) rfl (by kernel_rfl) (by kernel_rfl) (by kernel_rfl) (fun _ _ _ h => h) (Or.inl ⟨by rfl, ?_⟩) hHeld ?_
  rotate_left
  · (intro w hSw; (try dsimp only at hSw); go_simp; try with_reducible rfl)
  try simp only [Act.put, List.setIfInBounds_toArray, List.set_cons_zero, List.set_cons_succ, List.getElem_toArray, List.getElem_cons_zero, List.getElem_cons_succ]
  refine wpAnyH_take (i := 16) (v := ?_) rfl (by kernel_rfl) (by kernel_rfl) (by kernel_rfl) (fun _ _ _ h => h) (Or.inl ⟨by rfl, ?_⟩) hHeld ?_
  rotate_left
  · (intro w hSw; (try dsimp only at hSw); go_simp; try with_reducible rfl)
  try simp only [Act.put, List.setIfInBounds_toArray, List.set_cons_zero, List.set_cons_succ, List.getElem_toArray, List.getElem_cons_zero, List.getElem_cons_succ]
  refine wpAnyH_done (by kernel_rfl) ?_ _
  go_wp2_with fail
  go_ret
  exact ⟨rfl, by rw [hB1]; exact hHeld.2.2⟩

theorem holds_any (a o m v : Int) (d : Da) (w : World) (hd : d.ok) :
    Calls Tryz.prog 97 #[(.agg #[.int .i64 a, .int .i64 o, .int .u64 m, .int .u64 v]), d.val] w fun e w' => e = .returned (.bool (holdN a o m v (d.g.getD a.toNat 0))) ∧ Below w.heap.size w w' := by
  unfold holdN
  by_cases h : rightB a o = true
  · obtain ⟨h1, h2, _, _⟩ := right_bd h
    obtain ⟨k, rfl⟩ := Int.eq_ofNat_of_zero_le h1
    rw [h, Bool.true_and, Int.toNat_natCast]
    exact holds_right k o m v _ d.cells w (by omega) h (d.arg hd k (by omega)).1
  · have h' : rightB a o = false := by simpa using h
    rw [h', Bool.false_and]
    exact holds_wrong a o m v d.cells w h'

end Go.Proofs.YtcckipimfgmmdaaGreatDoor.M

namespace Go.Proofs.YtcckipimfgmmdaaGreatDoor.M
open Go.RowKit

def tab : List (ByteArray × Nat) := [
  (⟨#[114, 101, 97, 100]⟩, 0),
  (⟨#[119, 114, 105, 116, 101]⟩, 1),
  (⟨#[111, 112, 101, 110]⟩, 2),
  (⟨#[99, 108, 111, 115, 101]⟩, 3),
  (⟨#[115, 116, 97, 116]⟩, 4),
  (⟨#[102, 115, 116, 97, 116]⟩, 5),
  (⟨#[108, 115, 116, 97, 116]⟩, 6),
  (⟨#[112, 111, 108, 108]⟩, 7),
  (⟨#[108, 115, 101, 101, 107]⟩, 8),
  (⟨#[109, 109, 97, 112]⟩, 9),
  (⟨#[109, 112, 114, 111, 116, 101, 99, 116]⟩, 10),
  (⟨#[109, 117, 110, 109, 97, 112]⟩, 11),
  (⟨#[98, 114, 107]⟩, 12),
  (⟨#[105, 111, 99, 116, 108]⟩, 16),
  (⟨#[97, 99, 99, 101, 115, 115]⟩, 21),
  (⟨#[112, 105, 112, 101]⟩, 22),
  (⟨#[100, 117, 112]⟩, 32),
  (⟨#[103, 101, 116, 112, 105, 100]⟩, 39),
  (⟨#[115, 111, 99, 107, 101, 116]⟩, 41),
  (⟨#[99, 111, 110, 110, 101, 99, 116]⟩, 42),
  (⟨#[102, 111, 114, 107]⟩, 57),
  (⟨#[101, 120, 101, 99, 118, 101]⟩, 59),
  (⟨#[101, 120, 105, 116]⟩, 60),
  (⟨#[119, 97, 105, 116, 52]⟩, 61),
  (⟨#[107, 105, 108, 108]⟩, 62),
  (⟨#[117, 110, 97, 109, 101]⟩, 63),
  (⟨#[109, 107, 100, 105, 114]⟩, 83),
  (⟨#[117, 110, 108, 105, 110, 107]⟩, 87),
  (⟨#[111, 112, 101, 110, 97, 116]⟩, 257),
  (⟨#[115, 101, 99, 99, 111, 109, 112]⟩, 317)]

def tabC : List Value := tab.flatMap fun p => [.string p.1, .int .u32 p.2]

def eqS (a b : ByteArray) : Bool := lst a == lst b

theorem eqS_to (a b : ByteArray) : (a.toList == b.toList) = eqS a b := by
  rw [ByteArray.toList_eq, ByteArray.toList_eq]
  rfl
theorem eqS_iff {a b : ByteArray} : eqS a b = true ↔ a = b := by
  unfold eqS
  rw [beq_iff_eq]
  constructor
  · intro h
    rw [← bar_lst a, h, bar_lst]
  · rintro rfl; rfl
theorem eqS_self (a : ByteArray) : eqS a a = true := eqS_iff.2 rfl
def nrOf (s : ByteArray) : Option Nat := (tab.find? fun p => eqS p.1 s).map (·.2)
def nameOf (z : Int) : Option ByteArray := (tab.find? fun p => ((p.2 : Int) == z)).map (·.1)

def nrI (s : ByteArray) : Int := ((nrOf s).getD 0 : Nat)
def knB (s : ByteArray) : Bool := (nrOf s).isSome
def nmS (z : Int) : ByteArray := (nameOf z).getD ⟨#[]⟩
def isNr (z : Int) : Bool := (nameOf z).isSome

theorem tab_len : tab.length = 30 := rfl

theorem find_at {α : Type} {p : α → Bool} {l : List α} {i : Nat} (h : i < l.length) (hp : p l[i] = true) (ha : ∀ j (hj : j < i), p (l[j]'(by omega)) = false) : l.find? p = some l[i] := by
  induction l generalizing i with
  | nil => simp at h
  | cons x l ih =>
    cases i with
    | zero => simp only [List.getElem_cons_zero] at hp ⊢; rw [List.find?_cons_of_pos hp]
    | succ i =>
      have h0 := ha 0 (by omega)
      simp only [List.getElem_cons_zero] at h0
      rw [List.find?_cons_of_neg (by rw [h0]; decide)]
      simp only [List.getElem_cons_succ] at hp ⊢
      exact ih (by simpa using h) hp (fun j hj => by have := ha (j + 1) (by omega); simpa using this)
theorem find_none {α : Type} {p : α → Bool} {l : List α} (ha : ∀ j (hj : j < l.length), p (l[j]'hj) = false) : l.find? p = none := by
  rw [List.find?_eq_none]
  intro x hx
  obtain ⟨j, hj, rfl⟩ := List.getElem_of_mem hx
  rw [ha j hj]
  decide

theorem index_tab (i : Nat) (hi : i < tab.length) (W : World) : (Instr.index 172 (.agg tabC.toArray) (.int .i64 i)).run Tryz.prog W = .ok (.agg #[.string tab[i].1, .int .u32 tab[i].2]) W := by
  match i, hi with
  | 0, _ => show _ = _; kernel_rfl
  | 1, _ => show _ = _; kernel_rfl
  | 2, _ => show _ = _; kernel_rfl
  | 3, _ => show _ = _; kernel_rfl
  | 4, _ => show _ = _; kernel_rfl
  | 5, _ => show _ = _; kernel_rfl
  | 6, _ => show _ = _; kernel_rfl
  | 7, _ => show _ = _; kernel_rfl
  | 8, _ => show _ = _; kernel_rfl
  | 9, _ => show _ = _; kernel_rfl
  | 10, _ => show _ = _; kernel_rfl
  | 11, _ => show _ = _; kernel_rfl
  | 12, _ => show _ = _; kernel_rfl
  | 13, _ => show _ = _; kernel_rfl
  | 14, _ => show _ = _; kernel_rfl
  | 15, _ => show _ = _; kernel_rfl
  | 16, _ => show _ = _; kernel_rfl
  | 17, _ => show _ = _; kernel_rfl
  | 18, _ => show _ = _; kernel_rfl
  | 19, _ => show _ = _; kernel_rfl
  | 20, _ => show _ = _; kernel_rfl
  | 21, _ => show _ = _; kernel_rfl
  | 22, _ => show _ = _; kernel_rfl
  | 23, _ => show _ = _; kernel_rfl
  | 24, _ => show _ = _; kernel_rfl
  | 25, _ => show _ = _; kernel_rfl
  | 26, _ => show _ = _; kernel_rfl
  | 27, _ => show _ = _; kernel_rfl
  | 28, _ => show _ = _; kernel_rfl
  | 29, _ => show _ = _; kernel_rfl
  | n + 30, h => exact absurd h (by rw [tab_len]; omega)

end Go.Proofs.YtcckipimfgmmdaaGreatDoor.M

namespace Go.Proofs.YtcckipimfgmmdaaGreatDoor.M
open Go.RowKit

theorem at_op {P : Program} {ops : Array Oper} {Q : Exit → Act → World → Prop} {rest : List Oper} {o : Oper} {a : Act} {w : World} (op : Op) (_ho : o.op = op) (h : wpList P ops Q (o :: rest) a w) : wpList P ops Q (o :: rest) a w := h

theorem below_setRow {B : Nat} {a w : World} (h : Below B a w) {g : Nat} (hg : B ≤ g) (cs : Array Value) : Below B a (w.setRow g cs) :=
  h.trans ⟨rfl, rfl, rfl, by simp, fun k hk => setRow_other _ _ _ _ (by omega)⟩

theorem Tryz.sizeT : (Tryz.prog.info? 172).map (·.size) = some tabC.toArray.size := by kernel_rfl

theorem tab_one : tabC.toArray.all (·.oneCell') = true := by kernel_rfl

def zeroC : List Value := (List.range 30).flatMap fun _ => [.string ⟨#[]⟩, .int .u32 0]

set_option maxRecDepth 10000 in
set_option maxHeartbeats 1000000 in
theorem calls_any (w : World) : Calls Tryz.prog 95 #[] w fun e w' => e = .returned (.agg tabC.toArray) ∧ Below w.heap.size w w' := by
  have HB : Hid (Below w.heap.size w (w.alloc (Obj.cells zeroC.toArray 172))) := below_new w _
  have HK : Hid (Blk (w.alloc (Obj.cells zeroC.toArray 172)) w.heap.size 172 zeroC) := blk_new w _ _
  go_enter Tryz.func95, Tryz.ntmps95
  go_wp2_with (refine at_op (.store 172 (.tmp 0) (.tmp 31)) rfl ?_; refine wpList_store_row rfl 172 (.tmp 0) (.tmp 31) rfl w.heap.size tabC.toArray rfl rfl 172 _ HK.out Tryz.sizeT rfl tab_one ?_)
  refine bodyPost_ret (v := .agg tabC.toArray) ?_ rfl ⟨rfl, ?_⟩
  · exact results_cell_row Tryz.results95 _ _ w.heap.size 172 tabC.toArray (0, 0) _ rfl (Blk.row HK.out _) Tryz.underlying172 rfl Tryz.sizeT
  · exact below_setRow HB.out (Nat.le_refl _) _

end Go.Proofs.YtcckipimfgmmdaaGreatDoor.M

namespace Go.Proofs.YtcckipimfgmmdaaGreatDoor.M
open Go.RowKit

theorem nr_hit {s : ByteArray} {i : Nat} (hi : i < tab.length) (h : eqS tab[i].1 s = true) (ha : ∀ j (hj : j < i), eqS (tab[j]'(by omega)).1 s = false) : nrI s = tab[i].2 ∧ knB s = true := by
  unfold nrI knB nrOf
  rw [find_at (p := fun p => eqS p.1 s) hi h ha]
  exact ⟨rfl, rfl⟩
theorem nr_none {s : ByteArray} (ha : ∀ j (hj : j < tab.length), eqS (tab[j]'hj).1 s = false) : nrI s = 0 ∧ knB s = false := by
  unfold nrI knB nrOf
  rw [find_none (l := tab) (p := fun p => eqS p.1 s) ha]
  exact ⟨rfl, rfl⟩
theorem nm_hit {z : Int} {i : Nat} (hi : i < tab.length) (h : ((tab[i].2 : Int) == z) = true) (ha : ∀ j (hj : j < i), (((tab[j]'(by omega)).2 : Int) == z) = false) : nmS z = tab[i].1 ∧ isNr z = true := by
  unfold nmS isNr nameOf
  rw [find_at (p := fun p => ((p.2 : Int) == z)) hi h ha]
  exact ⟨rfl, rfl⟩
theorem nm_none {z : Int} (ha : ∀ j (hj : j < tab.length), (((tab[j]'hj).2 : Int) == z) = false) : nmS z = ⟨#[]⟩ ∧ isNr z = false := by
  unfold nmS isNr nameOf
  rw [find_none (l := tab) (p := fun p => ((p.2 : Int) == z)) ha]
  exact ⟨rfl, rfl⟩

theorem ret_two {k : IntKind} {a b : Int} {c d : Bool} (h : a = b) (h' : c = d) : Ending.returned (.tuple #[.int k a, .bool c]) = .returned (.tuple #[.int k b, .bool d]) := by rw [h, h']
theorem ret_twoS {a b : ByteArray} {c d : Bool} (h : a = b) (h' : c = d) : Ending.returned (.tuple #[.string a, .bool c]) = .returned (.tuple #[.string b, .bool d]) := by rw [h, h']

set_option maxHeartbeats 1000000 in
theorem nr_any (s : ByteArray) (w : World) : Calls Tryz.prog 122 #[.string s] w fun e w' => e = .returned (.tuple #[.int .u32 (nrI s), .bool (knB s)]) ∧ Below w.heap.size w w' := by
  have HC : Hid (∀ W, Calls Tryz.prog 95 #[] W fun e w' => e = .returned (.agg tabC.toArray) ∧ Below W.heap.size W w') := calls_any
  have HL : Hid (tab.length = 30) := tab_len
  generalize hT : tabC.toArray = TC at *
  go_enter Tryz.func122, Tryz.ntmps122
  go_wp2_with (go_at_call 95; refine (HC.out _).mono ?_; rintro e w1 ⟨rfl, b1⟩)
  go_loopw [7] (fun vi wr => ∃ i : Nat, vi = .int .i64 i ∧ i ≤ 30 ∧ (∀ j (hj : j < i) (hj2 : j < tab.length), eqS (tab[j]'hj2).1 s = false) ∧ Below w.heap.size w wr) (fun vi _ => 30 - (intOf vi).toNat)
  case atStart => exact ⟨0, rfl, Nat.zero_le _, fun j hj => absurd hj (Nat.not_lt_zero _), b1⟩
  case round =>
    obtain ⟨i, rfl, hi, ha, hb⟩ := hrel
    have HA : Hid (∀ j (hj : j < i) (hj2 : j < tab.length), eqS (tab[j]'hj2).1 s = false) := ha
    have HB : Hid (Below w.heap.size w wr) := hb
    clear ha hb
    by_cases hlt : i < 30
    · have hi1 : (i : Int) < 30 := by omega
      have hil : i < tab.length := by rw [HL.out]; exact hlt
      have hix : ∀ W : World, (Instr.index 172 (.agg TC) (.int .i64 i)).run Tryz.prog W = .ok (.agg #[.string tab[i].1, .int .u32 tab[i].2]) W := fun W => by rw [← hT]; exact index_tab i hil W
      have HS : Hid (eqS tab[i].1 s = false → ∀ j (hj : j < i + 1) (hj2 : j < tab.length), eqS (tab[j]'hj2).1 s = false) := fun hq j hj hj2 => by
        rcases Nat.lt_or_ge j i with h | h
        · exact HA.out j h hj2
        · obtain rfl : j = i := by omega
          exact hq
      have HF : Hid (eqS tab[i].1 s = true → nrI s = tab[i].2 ∧ knB s = true) := fun hq => nr_hit hil hq fun j hj => HA.out j hj _
      generalize tab[i] = p at *
      obtain ⟨nm, nr⟩ := p
      dsimp only at hix HS HF
      have BE : Hid (Below w.heap.size w (wr.alloc (Obj.cells #[.string nm, .int .u32 nr] 171))) := HB.out.alloc HB.out.size _
      clear HA hT HC
      rcases Bool.eq_false_or_eq_true (eqS nm s) with hq | hq
      · have hq' : (nm.toList == s.toList) = true := (eqS_to _ _).trans hq
        go_wp2
        go_ret2
        exact ⟨ret_two (HF.out hq).1.symm (HF.out hq).2.symm, BE.out⟩
      · have hq' : (nm.toList == s.toList) = false := (eqS_to _ _).trans hq
        go_wp2
        go_roundw
        case rel => exact ⟨i + 1, by go_num, hlt, HS.out hq, BE.out⟩
        case measure => simp [intOf]; omega
    · have hge : ¬ (i : Int) < 30 := by omega
      have hF := nr_none (s := s) fun j hj => HA.out j (by have := HL.out; omega) hj
      have HF : Hid (nrI s = 0 ∧ knB s = false) := hF
      clear hF HA
      go_wp2
      go_ret2
      exact ⟨ret_two HF.out.1.symm HF.out.2.symm, HB.out⟩

set_option maxHeartbeats 1000000 in
theorem name_any (z : Int) (w : World) : Calls Tryz.prog 53 #[.int .u32 z] w fun e w' => e = .returned (.tuple #[.string (nmS z), .bool (isNr z)]) ∧ Below w.heap.size w w' := by
  have HC : Hid (∀ W, Calls Tryz.prog 95 #[] W fun e w' => e = .returned (.agg tabC.toArray) ∧ Below W.heap.size W w') := calls_any
  have HL : Hid (tab.length = 30) := tab_len
  generalize hT : tabC.toArray = TC at *
  go_enter Tryz.func53, Tryz.ntmps53
  go_wp2_with (go_at_call 95; refine (HC.out _).mono ?_; rintro e w1 ⟨rfl, b1⟩)
  go_loopw [7] (fun vi wr => ∃ i : Nat, vi = .int .i64 i ∧ i ≤ 30 ∧ (∀ j (hj : j < i) (hj2 : j < tab.length), (((tab[j]'hj2).2 : Int) == z) = false) ∧ Below w.heap.size w wr) (fun vi _ => 30 - (intOf vi).toNat)
  case atStart => exact ⟨0, rfl, Nat.zero_le _, fun j hj => absurd hj (Nat.not_lt_zero _), b1⟩
  case round =>
    obtain ⟨i, rfl, hi, ha, hb⟩ := hrel
    have HA : Hid (∀ j (hj : j < i) (hj2 : j < tab.length), (((tab[j]'hj2).2 : Int) == z) = false) := ha
    have HB : Hid (Below w.heap.size w wr) := hb
    clear ha hb
    by_cases hlt : i < 30
    · have hi1 : (i : Int) < 30 := by omega
      have hil : i < tab.length := by rw [HL.out]; exact hlt
      have hix : ∀ W : World, (Instr.index 172 (.agg TC) (.int .i64 i)).run Tryz.prog W = .ok (.agg #[.string tab[i].1, .int .u32 tab[i].2]) W := fun W => by rw [← hT]; exact index_tab i hil W
      have HS : Hid (((tab[i].2 : Int) == z) = false → ∀ j (hj : j < i + 1) (hj2 : j < tab.length), (((tab[j]'hj2).2 : Int) == z) = false) := fun hq j hj hj2 => by
        rcases Nat.lt_or_ge j i with h | h
        · exact HA.out j h hj2
        · obtain rfl : j = i := by omega
          exact hq
      have HF : Hid (((tab[i].2 : Int) == z) = true → nmS z = tab[i].1 ∧ isNr z = true) := fun hq => nm_hit hil hq fun j hj => HA.out j hj _
      generalize tab[i] = p at *
      obtain ⟨nm, nr⟩ := p
      dsimp only at hix HS HF
      have BE : Hid (Below w.heap.size w (wr.alloc (Obj.cells #[.string nm, .int .u32 nr] 171))) := HB.out.alloc HB.out.size _
      clear HA hT HC
      generalize (nr : Int) = nz at *
      rcases Bool.eq_false_or_eq_true (nz == z) with hq | hq
      · go_wp2
        go_ret2
        exact ⟨ret_twoS (HF.out hq).1.symm (HF.out hq).2.symm, BE.out⟩
      · go_wp2
        go_roundw
        case rel => exact ⟨i + 1, by go_num, hlt, HS.out hq, BE.out⟩
        case measure => simp [intOf]; omega
    · have hge : ¬ (i : Int) < 30 := by omega
      have hF := nm_none (z := z) fun j hj => HA.out j (by have := HL.out; omega) hj
      have HF : Hid (nmS z = ⟨#[]⟩ ∧ isNr z = false) := hF
      clear hF HA
      go_wp2
      go_ret2
      exact ⟨ret_twoS HF.out.1.symm HF.out.2.symm, HB.out⟩

end Go.Proofs.YtcckipimfgmmdaaGreatDoor.M
