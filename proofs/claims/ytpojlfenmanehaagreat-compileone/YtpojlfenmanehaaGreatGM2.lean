/-
  Whether conditions hold.
-/
import Derived.Test.YtpojlfenmanehaaGreatGM1
import Derived.Laws.EntriesVeiled
import Derived.Deep.RegionHeld3
namespace Go.Proofs.YtpojlfenmanehaaGreat.M
open Go.RowKit

theorem condR4_any (a o m v : Int) (w : World) :
    Calls Tryz.prog 103 #[.agg #[.int .i64 a, .int .i64 o, .int .u64 m, .int .u64 v]] w fun e w' => e = .returned (.bool (rightB a o)) ∧ Below w.heap.size w w' := by
  have HB : Hid (∀ o, Below w.heap.size w (w.alloc o)) := below_new w
  go_enter Tryz.func103, Tryz.ntmps103
  go_wp2
  all_goals (go_ret; exact ⟨ret_bool (by simp [rightB, *] <;> omega), HB.out _⟩)


theorem same_any (x v : Int) (w : World) : Calls Tryz.prog 158 #[.int .u64 x, .int .u64 v] w fun e w' => e = .returned (.bool (heldB 1 x v)) ∧ w' = w := by
  go_enter Tryz.func158, Tryz.ntmps158
  go_wp2
  go_ret
  exact ⟨ret_bool (by simp [heldB]), rfl⟩

theorem differs_any (x v : Int) (w : World) : Calls Tryz.prog 159 #[.int .u64 x, .int .u64 v] w fun e w' => e = .returned (.bool (heldB 2 x v)) ∧ w' = w := by
  go_enter Tryz.func159, Tryz.ntmps159
  go_wp2
  go_ret
  exact ⟨rfl, rfl⟩

theorem less_any (x v : Int) (w : World) : Calls Tryz.prog 160 #[.int .u64 x, .int .u64 v] w fun e w' => e = .returned (.bool (heldB 3 x v)) ∧ w' = w := by
  go_enter Tryz.func160, Tryz.ntmps160
  go_wp2
  go_ret
  exact ⟨ret_bool (by simp [heldB]), rfl⟩

theorem atMost_any (x v : Int) (w : World) : Calls Tryz.prog 161 #[.int .u64 x, .int .u64 v] w fun e w' => e = .returned (.bool (heldB 4 x v)) ∧ w' = w := by
  go_enter Tryz.func161, Tryz.ntmps161
  go_wp2
  go_ret
  exact ⟨ret_bool (by simp [heldB]), rfl⟩

theorem greater_any (x v : Int) (w : World) : Calls Tryz.prog 162 #[.int .u64 x, .int .u64 v] w fun e w' => e = .returned (.bool (heldB 5 x v)) ∧ w' = w := by
  go_enter Tryz.func162, Tryz.ntmps162
  go_wp2
  go_ret
  exact ⟨ret_bool (by simp [heldB]), rfl⟩

theorem atLeast_any (x v : Int) (w : World) : Calls Tryz.prog 163 #[.int .u64 x, .int .u64 v] w fun e w' => e = .returned (.bool (heldB 6 x v)) ∧ w' = w := by
  go_enter Tryz.func163, Tryz.ntmps163
  go_wp2
  go_ret
  exact ⟨ret_bool (by simp [heldB]), rfl⟩

theorem comparisons_any (w : World) :
    Calls Tryz.prog 146 #[] w fun e w' => e = .returned (.agg #[.nilFunc, .func (.func 158) #[] #[], .func (.func 159) #[] #[], .func (.func 160) #[] #[], .func (.func 161) #[] #[], .func (.func 162) #[] #[], .func (.func 163) #[] #[]]) ∧ Below w.heap.size w w' := by
  have HB : Hid (∀ o, Below w.heap.size w (w.alloc o)) := below_new w
  go_enter Tryz.func146, Tryz.ntmps146
  go_wp2
  refine bodyPost_ret (v := .agg #[.nilFunc, .func (.func 158) #[] #[], .func (.func 159) #[] #[], .func (.func 160) #[] #[], .func (.func 161) #[] #[], .func (.func 162) #[] #[], .func (.func 163) #[] #[]]) (by simp [results, Tryz.results146, go_sem]) rfl ⟨rfl, ?_⟩
  exact HB.out _

theorem held_any (o x m v : Int) (w : World) (h1 : 1 ≤ o) (h6 : o ≤ 6) :
    Calls Tryz.prog 125 #[.int .i64 o, .int .u64 x, .int .u64 m, .int .u64 v] w fun e w' => e = .returned (.bool (heldB o (an x m) v)) ∧ Below w.heap.size w w' := by
  have HC : Hid (∀ W : World, Calls Tryz.prog 146 #[] W fun e w' => e = .returned (.agg #[.nilFunc, .func (.func 158) #[] #[], .func (.func 159) #[] #[], .func (.func 160) #[] #[], .func (.func 161) #[] #[], .func (.func 162) #[] #[], .func (.func 163) #[] #[]]) ∧ Below W.heap.size W w') := comparisons_any
  have ea : bits BinOp.and IntKind.u64 x m = an x m := rfl
  have G1 : Hid (∀ W : World, Calls Tryz.prog 158 #[.int .u64 (an x m), .int .u64 v] W fun e w' => e = .returned (.bool (heldB 1 (an x m) v)) ∧ w' = W) := fun W => same_any _ _ W
  have G2 : Hid (∀ W : World, Calls Tryz.prog 159 #[.int .u64 (an x m), .int .u64 v] W fun e w' => e = .returned (.bool (heldB 2 (an x m) v)) ∧ w' = W) := fun W => differs_any _ _ W
  have G3 : Hid (∀ W : World, Calls Tryz.prog 160 #[.int .u64 (an x m), .int .u64 v] W fun e w' => e = .returned (.bool (heldB 3 (an x m) v)) ∧ w' = W) := fun W => less_any _ _ W
  have G4 : Hid (∀ W : World, Calls Tryz.prog 161 #[.int .u64 (an x m), .int .u64 v] W fun e w' => e = .returned (.bool (heldB 4 (an x m) v)) ∧ w' = W) := fun W => atMost_any _ _ W
  have G5 : Hid (∀ W : World, Calls Tryz.prog 162 #[.int .u64 (an x m), .int .u64 v] W fun e w' => e = .returned (.bool (heldB 5 (an x m) v)) ∧ w' = W) := fun W => greater_any _ _ W
  have G6 : Hid (∀ W : World, Calls Tryz.prog 163 #[.int .u64 (an x m), .int .u64 v] W fun e w' => e = .returned (.bool (heldB 6 (an x m) v)) ∧ w' = W) := fun W => atLeast_any _ _ W
  generalize an x m = y at *
  rcases six h1 h6 with rfl | rfl | rfl | rfl | rfl | rfl
  · clear h1 h6 G2 G3 G4 G5 G6
    have hi : ∀ W : World, (Instr.index 177 (.agg #[.nilFunc, .func (.func 158) #[] #[], .func (.func 159) #[] #[], .func (.func 160) #[] #[], .func (.func 161) #[] #[], .func (.func 162) #[] #[], .func (.func 163) #[] #[]]) (.int .i64 1)).run Tryz.prog W = .ok (.func (.func 158) #[] #[]) W := fun W => by kernel_rfl
    go_enter Tryz.func125, Tryz.ntmps125
    go_wp2_with (first | (go_at_call 146; refine (HC.out _).mono ?_; rintro e w1 ⟨rfl, b1⟩) | (go_at_call 158; refine (G1.out _).mono ?_; rintro e w2 ⟨rfl, rfl⟩))
    go_ret
    exact ⟨rfl, b1⟩
  · clear h1 h6 G1 G3 G4 G5 G6
    have hi : ∀ W : World, (Instr.index 177 (.agg #[.nilFunc, .func (.func 158) #[] #[], .func (.func 159) #[] #[], .func (.func 160) #[] #[], .func (.func 161) #[] #[], .func (.func 162) #[] #[], .func (.func 163) #[] #[]]) (.int .i64 2)).run Tryz.prog W = .ok (.func (.func 159) #[] #[]) W := fun W => by kernel_rfl
    go_enter Tryz.func125, Tryz.ntmps125
    go_wp2_with (first | (go_at_call 146; refine (HC.out _).mono ?_; rintro e w1 ⟨rfl, b1⟩) | (go_at_call 159; refine (G2.out _).mono ?_; rintro e w2 ⟨rfl, rfl⟩))
    go_ret
    exact ⟨rfl, b1⟩
  · clear h1 h6 G1 G2 G4 G5 G6
    have hi : ∀ W : World, (Instr.index 177 (.agg #[.nilFunc, .func (.func 158) #[] #[], .func (.func 159) #[] #[], .func (.func 160) #[] #[], .func (.func 161) #[] #[], .func (.func 162) #[] #[], .func (.func 163) #[] #[]]) (.int .i64 3)).run Tryz.prog W = .ok (.func (.func 160) #[] #[]) W := fun W => by kernel_rfl
    go_enter Tryz.func125, Tryz.ntmps125
    go_wp2_with (first | (go_at_call 146; refine (HC.out _).mono ?_; rintro e w1 ⟨rfl, b1⟩) | (go_at_call 160; refine (G3.out _).mono ?_; rintro e w2 ⟨rfl, rfl⟩))
    go_ret
    exact ⟨rfl, b1⟩
  · clear h1 h6 G1 G2 G3 G5 G6
    have hi : ∀ W : World, (Instr.index 177 (.agg #[.nilFunc, .func (.func 158) #[] #[], .func (.func 159) #[] #[], .func (.func 160) #[] #[], .func (.func 161) #[] #[], .func (.func 162) #[] #[], .func (.func 163) #[] #[]]) (.int .i64 4)).run Tryz.prog W = .ok (.func (.func 161) #[] #[]) W := fun W => by kernel_rfl
    go_enter Tryz.func125, Tryz.ntmps125
    go_wp2_with (first | (go_at_call 146; refine (HC.out _).mono ?_; rintro e w1 ⟨rfl, b1⟩) | (go_at_call 161; refine (G4.out _).mono ?_; rintro e w2 ⟨rfl, rfl⟩))
    go_ret
    exact ⟨rfl, b1⟩
  · clear h1 h6 G1 G2 G3 G4 G6
    have hi : ∀ W : World, (Instr.index 177 (.agg #[.nilFunc, .func (.func 158) #[] #[], .func (.func 159) #[] #[], .func (.func 160) #[] #[], .func (.func 161) #[] #[], .func (.func 162) #[] #[], .func (.func 163) #[] #[]]) (.int .i64 5)).run Tryz.prog W = .ok (.func (.func 162) #[] #[]) W := fun W => by kernel_rfl
    go_enter Tryz.func125, Tryz.ntmps125
    go_wp2_with (first | (go_at_call 146; refine (HC.out _).mono ?_; rintro e w1 ⟨rfl, b1⟩) | (go_at_call 162; refine (G5.out _).mono ?_; rintro e w2 ⟨rfl, rfl⟩))
    go_ret
    exact ⟨rfl, b1⟩
  · clear h1 h6 G1 G2 G3 G4 G5
    have hi : ∀ W : World, (Instr.index 177 (.agg #[.nilFunc, .func (.func 158) #[] #[], .func (.func 159) #[] #[], .func (.func 160) #[] #[], .func (.func 161) #[] #[], .func (.func 162) #[] #[], .func (.func 163) #[] #[]]) (.int .i64 6)).run Tryz.prog W = .ok (.func (.func 163) #[] #[]) W := fun W => by kernel_rfl
    go_enter Tryz.func125, Tryz.ntmps125
    go_wp2_with (first | (go_at_call 146; refine (HC.out _).mono ?_; rintro e w1 ⟨rfl, b1⟩) | (go_at_call 163; refine (G6.out _).mono ?_; rintro e w2 ⟨rfl, rfl⟩))
    go_ret
    exact ⟨rfl, b1⟩


end Go.Proofs.YtpojlfenmanehaaGreat.M

namespace Go.Proofs.YtpojlfenmanehaaGreat.M
open Go.RowKit

theorem two_new (w : World) (l A : List Value) : Blk ((w.alloc (Obj.cells l.toArray 54)).alloc (Obj.cells A.toArray 41)) w.heap.size 54 l ∧ Blk ((w.alloc (Obj.cells l.toArray 54)).alloc (Obj.cells A.toArray 41)) (w.heap.size + 1) 41 A ∧ Below w.heap.size w ((w.alloc (Obj.cells l.toArray 54)).alloc (Obj.cells A.toArray 41)) :=
  ⟨(blk_new w _ 54).alloc _, blk_new' w _ _ 41, room_below w _ _⟩

set_option linter.unusedSimpArgs false in
set_option maxHeartbeats 800000 in
theorem holds_wrong (a o m v : Int) (A : List Value) (w : World) (hr : rightB a o = false) :
    Calls Tryz.prog 98 #[(.agg #[.int .i64 a, .int .i64 o, .int .u64 m, .int .u64 v]), .agg A.toArray] w fun e w' => e = .returned (.bool false) ∧ Below w.heap.size w w' := by
  have HR : Hid (∀ W : World, Calls Tryz.prog 103 #[(.agg #[.int .i64 a, .int .i64 o, .int .u64 m, .int .u64 v])] W fun e w' => e = .returned (.bool false) ∧ Below W.heap.size W w') := fun W => hr ▸ condR4_any a o m v W
  have HK := two_new w [.int .i64 a, .int .i64 o, .int .u64 m, .int .u64 v] A
  clear hr
  go_enter Tryz.func98, Tryz.ntmps98
  go_wp2_with fail
  generalize (w.alloc (Obj.cells #[.int .i64 a, .int .i64 o, .int .u64 m, .int .u64 v] 54)).alloc (Obj.cells A.toArray 41) = W0 at *
  generalize hB1 : w.heap.size = B1 at *
  generalize hB2 : B1 + 1 = B2 at *
  refine wp_region_held_drew (S := (fun X => Blk X B1 54 [.int .i64 a, .int .i64 o, .int .u64 m, .int .u64 v] ∧ Blk X B2 41 A ∧ Below B1 w X)) (by kernel_rfl) (⟨HK.1.drew, HK.2.1.drew, HK.2.2.drew⟩) (fun hHeld => ?_)
  simp only [List.size_toArray, List.length_cons, List.length_nil, Nat.reduceAdd]
  refine wpAnyH_take (i := 0) (v := ?_) rfl (by kernel_rfl) (by kernel_rfl) (by kernel_rfl) (fun _ _ _ h => h) (Or.inl ⟨by rfl, ?_⟩) hHeld ?_
  rotate_left
  · (intro w hSw; (try dsimp only at hSw); have s0 := hSw.1.cell 0; have s1 := hSw.1.cell 1; have s2 := hSw.1.cell 2; have s3 := hSw.1.cell 3; go_simp; try with_reducible rfl)
  try simp only [Act.put, List.setIfInBounds_toArray, List.set_cons_zero, List.set_cons_succ, List.getElem_toArray, List.getElem_cons_zero, List.getElem_cons_succ]
  refine wpAnyH_ready (rs := [1]) (by kernel_rfl) (by simp) ?_
  refine AllReadyH.cons rfl (fun K hK => ?_) AllReadyH.nil
  go_simp
  refine (HR.out _).mono ?_
  rintro e w1 ⟨rfl, b1⟩
  go_wp2_with fail
  refine hK.out _ _ (⟨hHeld.1.over b1, hHeld.2.1.over b1, hHeld.2.2.trans (b1.mono (hB1 ▸ hHeld.2.2.size))⟩) (fun hHeld => ?_)
  clear hK K
  try simp only [Act.put, List.setIfInBounds_toArray, List.set_cons_zero, List.set_cons_succ, List.getElem_toArray, List.getElem_cons_zero, List.getElem_cons_succ]
  refine wpAnyH_take (i := 2) (v := ?_) rfl (by kernel_rfl) (by kernel_rfl) (by kernel_rfl) (fun _ _ _ h => h) (Or.inl ⟨by rfl, ?_⟩) hHeld ?_
  rotate_left
  · (intro w hSw; (try dsimp only at hSw); go_simp; try with_reducible rfl)
  try simp only [Act.put, List.setIfInBounds_toArray, List.set_cons_zero, List.set_cons_succ, List.getElem_toArray, List.getElem_cons_zero, List.getElem_cons_succ]
  refine wpAnyH_take (i := 3) (v := undef) rfl (by kernel_rfl) (by kernel_rfl) (by kernel_rfl) (fun _ _ _ h => h) (Or.inr ⟨by rfl, rfl⟩) hHeld ?_
  try simp only [Act.put, List.setIfInBounds_toArray, List.set_cons_zero, List.set_cons_succ, List.getElem_toArray, List.getElem_cons_zero, List.getElem_cons_succ]
  refine wpAnyH_take (i := 4) (v := undef) rfl (by kernel_rfl) (by kernel_rfl) (by kernel_rfl) (fun _ _ _ h => h) (Or.inr ⟨by rfl, rfl⟩) hHeld ?_
  try simp only [Act.put, List.setIfInBounds_toArray, List.set_cons_zero, List.set_cons_succ, List.getElem_toArray, List.getElem_cons_zero, List.getElem_cons_succ]
  refine wpAnyH_take (i := 5) (v := undef) rfl (by kernel_rfl) (by kernel_rfl) (by kernel_rfl) (fun _ _ _ h => h) (Or.inr ⟨by rfl, rfl⟩) hHeld ?_
  try simp only [Act.put, List.setIfInBounds_toArray, List.set_cons_zero, List.set_cons_succ, List.getElem_toArray, List.getElem_cons_zero, List.getElem_cons_succ]
  refine wpAnyH_take (i := 6) (v := undef) rfl (by kernel_rfl) (by kernel_rfl) (by kernel_rfl) (fun _ _ _ h => h) (Or.inr ⟨by rfl, rfl⟩) hHeld ?_
  try simp only [Act.put, List.setIfInBounds_toArray, List.set_cons_zero, List.set_cons_succ, List.getElem_toArray, List.getElem_cons_zero, List.getElem_cons_succ]
  refine wpAnyH_take (i := 7) (v := undef) rfl (by kernel_rfl) (by kernel_rfl) (by kernel_rfl) (fun _ _ _ h => h) (Or.inr ⟨by rfl, rfl⟩) hHeld ?_
  try simp only [Act.put, List.setIfInBounds_toArray, List.set_cons_zero, List.set_cons_succ, List.getElem_toArray, List.getElem_cons_zero, List.getElem_cons_succ]
  refine wpAnyH_take (i := 8) (v := undef) rfl (by kernel_rfl) (by kernel_rfl) (by kernel_rfl) (fun _ _ _ h => h) (Or.inr ⟨by rfl, rfl⟩) hHeld ?_
  try simp only [Act.put, List.setIfInBounds_toArray, List.set_cons_zero, List.set_cons_succ, List.getElem_toArray, List.getElem_cons_zero, List.getElem_cons_succ]
  refine wpAnyH_take (i := 9) (v := undef) rfl (by kernel_rfl) (by kernel_rfl) (by kernel_rfl) (fun _ _ _ h => h) (Or.inr ⟨by rfl, rfl⟩) hHeld ?_
  try simp only [Act.put, List.setIfInBounds_toArray, List.set_cons_zero, List.set_cons_succ, List.getElem_toArray, List.getElem_cons_zero, List.getElem_cons_succ]
  refine wpAnyH_take (i := 10) (v := undef) rfl (by kernel_rfl) (by kernel_rfl) (by kernel_rfl) (fun _ _ _ h => h) (Or.inr ⟨by rfl, rfl⟩) hHeld ?_
  try simp only [Act.put, List.setIfInBounds_toArray, List.set_cons_zero, List.set_cons_succ, List.getElem_toArray, List.getElem_cons_zero, List.getElem_cons_succ]
  refine wpAnyH_take (i := 11) (v := undef) rfl (by kernel_rfl) (by kernel_rfl) (by kernel_rfl) (fun _ _ _ h => h) (Or.inr ⟨by rfl, rfl⟩) hHeld ?_
  try simp only [Act.put, List.setIfInBounds_toArray, List.set_cons_zero, List.set_cons_succ, List.getElem_toArray, List.getElem_cons_zero, List.getElem_cons_succ]
  refine wpAnyH_take (i := 12) (v := undef) rfl (by kernel_rfl) (by kernel_rfl) (by kernel_rfl) (fun _ _ _ h => h) (Or.inr ⟨by rfl, rfl⟩) hHeld ?_
  try simp only [Act.put, List.setIfInBounds_toArray, List.set_cons_zero, List.set_cons_succ, List.getElem_toArray, List.getElem_cons_zero, List.getElem_cons_succ]
  refine wpAnyH_take (i := 13) (v := undef) rfl (by kernel_rfl) (by kernel_rfl) (by kernel_rfl) (fun _ _ _ h => h) (Or.inr ⟨by rfl, rfl⟩) hHeld ?_
  try simp only [Act.put, List.setIfInBounds_toArray, List.set_cons_zero, List.set_cons_succ, List.getElem_toArray, List.getElem_cons_zero, List.getElem_cons_succ]
  refine wpAnyH_take (i := 14) (v := undef) rfl (by kernel_rfl) (by kernel_rfl) (by kernel_rfl) (fun _ _ _ h => h) (Or.inr ⟨by rfl, rfl⟩) hHeld ?_
  try simp only [Act.put, List.setIfInBounds_toArray, List.set_cons_zero, List.set_cons_succ, List.getElem_toArray, List.getElem_cons_zero, List.getElem_cons_succ]
  refine wpAnyH_take (i := 15) (v := ?_) rfl (by kernel_rfl) (by kernel_rfl) (by kernel_rfl) (fun _ _ _ h => h) (Or.inl ⟨by rfl, ?_⟩) hHeld ?_
  rotate_left
  · (intro w hSw; (try dsimp only at hSw); go_simp; try with_reducible rfl)
  try simp only [Act.put, List.setIfInBounds_toArray, List.set_cons_zero, List.set_cons_succ, List.getElem_toArray, List.getElem_cons_zero, List.getElem_cons_succ]
  refine wpAnyH_take (i := 16) (v := ?_) rfl (by kernel_rfl) (by kernel_rfl) (by kernel_rfl) (fun _ _ _ h => h) (Or.inl ⟨by rfl, ?_⟩) hHeld ?_
  rotate_left
  · (intro w hSw; (try dsimp only at hSw); go_simp; try with_reducible rfl)
  try simp only [Act.put, List.setIfInBounds_toArray, List.set_cons_zero, List.set_cons_succ, List.getElem_toArray, List.getElem_cons_zero, List.getElem_cons_succ]
  refine wpAnyH_done (by kernel_rfl) ?_ _
  go_wp2_with fail
  go_ret
  exact ⟨rfl, by rw [hB1]; exact hHeld.2.2⟩

set_option linter.unusedSimpArgs false in
set_option maxHeartbeats 1600000 in
theorem holds_right (k : Nat) (o m v x : Int) (A : List Value) (w : World) (hk : k < 6) (hr : rightB k o = true) (hA : A[3 + k]? = some (.int .u64 x)) :
    Calls Tryz.prog 98 #[(.agg #[.int .i64 (k : Int), .int .i64 o, .int .u64 m, .int .u64 v]), .agg A.toArray] w fun e w' => e = .returned (.bool (heldB o (an x m) v)) ∧ Below w.heap.size w w' := by
  have HR : Hid (∀ W : World, Calls Tryz.prog 103 #[(.agg #[.int .i64 (k : Int), .int .i64 o, .int .u64 m, .int .u64 v])] W fun e w' => e = .returned (.bool true) ∧ Below W.heap.size W w') := fun W => hr ▸ condR4_any k o m v W
  have HL : Hid (∀ W : World, Calls Tryz.prog 125 #[.int .i64 o, .int .u64 x, .int .u64 m, .int .u64 v] W fun e w' => e = .returned (.bool (heldB o (an x m) v)) ∧ Below W.heap.size W w') := fun W => held_any o x m v W (right_bd hr).2.2.1 (right_bd hr).2.2.2
  have HK := two_new w [.int .i64 (k : Int), .int .i64 o, .int .u64 m, .int .u64 v] A
  have HA : Hid (∀ X b, Blk X b 41 A → X.cell? ⟨b, 3 + k, none⟩ = some (.int .u64 x)) := fun X b h => (h.cell (3 + k)).trans hA
  have k1 : (0 : Int) ≤ (k : Int) := by omega
  have k2 : (k : Int) < 6 := by omega
  clear hr hA
  generalize heldB o (an x m) v = q at *
  go_enter Tryz.func98, Tryz.ntmps98
  go_wp2_with fail
  generalize (w.alloc (Obj.cells #[.int .i64 (k : Int), .int .i64 o, .int .u64 m, .int .u64 v] 54)).alloc (Obj.cells A.toArray 41) = W0 at *
  generalize hB1 : w.heap.size = B1 at *
  generalize hB2 : B1 + 1 = B2 at *
  refine wp_region_held_drew (S := (fun X => Blk X B1 54 [.int .i64 (k : Int), .int .i64 o, .int .u64 m, .int .u64 v] ∧ Blk X B2 41 A ∧ Below B1 w X)) (by kernel_rfl) (⟨HK.1.drew, HK.2.1.drew, HK.2.2.drew⟩) (fun hHeld => ?_)
  simp only [List.size_toArray, List.length_cons, List.length_nil, Nat.reduceAdd]
  refine wpAnyH_take (i := 0) (v := ?_) rfl (by kernel_rfl) (by kernel_rfl) (by kernel_rfl) (fun _ _ _ h => h) (Or.inl ⟨by rfl, ?_⟩) hHeld ?_
  rotate_left
  · (intro w hSw; (try dsimp only at hSw); have s0 := hSw.1.cell 0; have s1 := hSw.1.cell 1; have s2 := hSw.1.cell 2; have s3 := hSw.1.cell 3; go_simp; try with_reducible rfl)
  try simp only [Act.put, List.setIfInBounds_toArray, List.set_cons_zero, List.set_cons_succ, List.getElem_toArray, List.getElem_cons_zero, List.getElem_cons_succ]
  refine wpAnyH_ready (rs := [1]) (by kernel_rfl) (by simp) ?_
  refine AllReadyH.cons rfl (fun K hK => ?_) AllReadyH.nil
  go_simp
  refine (HR.out _).mono ?_
  rintro e w1 ⟨rfl, b1⟩
  go_wp2_with fail
  refine hK.out _ _ (⟨hHeld.1.over b1, hHeld.2.1.over b1, hHeld.2.2.trans (b1.mono (hB1 ▸ hHeld.2.2.size))⟩) (fun hHeld => ?_)
  clear hK K
  try simp only [Act.put, List.setIfInBounds_toArray, List.set_cons_zero, List.set_cons_succ, List.getElem_toArray, List.getElem_cons_zero, List.getElem_cons_succ]
  refine wpAnyH_take (i := 2) (v := ?_) rfl (by kernel_rfl) (by kernel_rfl) (by kernel_rfl) (fun _ _ _ h => h) (Or.inl ⟨by rfl, ?_⟩) hHeld ?_
  rotate_left
  · (intro w hSw; (try dsimp only at hSw); go_simp; try with_reducible rfl)
  try simp only [Act.put, List.setIfInBounds_toArray, List.set_cons_zero, List.set_cons_succ, List.getElem_toArray, List.getElem_cons_zero, List.getElem_cons_succ]
  refine wpAnyH_take (i := 3) (v := ?_) rfl (by kernel_rfl) (by kernel_rfl) (by kernel_rfl) (fun _ _ _ h => h) (Or.inl ⟨by rfl, ?_⟩) hHeld ?_
  rotate_left
  · (intro w hSw; (try dsimp only at hSw); have s0 := hSw.1.cell 0; have s1 := hSw.1.cell 1; have s2 := hSw.1.cell 2; have s3 := hSw.1.cell 3; go_simp; try with_reducible rfl)
  try simp only [Act.put, List.setIfInBounds_toArray, List.set_cons_zero, List.set_cons_succ, List.getElem_toArray, List.getElem_cons_zero, List.getElem_cons_succ]
  refine wpAnyH_take (i := 4) (v := ?_) rfl (by kernel_rfl) (by kernel_rfl) (by kernel_rfl) (fun _ _ _ h => h) (Or.inl ⟨by rfl, ?_⟩) hHeld ?_
  rotate_left
  · (intro w hSw; (try dsimp only at hSw); have s0 := hSw.1.cell 0; have s1 := hSw.1.cell 1; have s2 := hSw.1.cell 2; have s3 := hSw.1.cell 3; go_simp; try with_reducible rfl)
  try simp only [Act.put, List.setIfInBounds_toArray, List.set_cons_zero, List.set_cons_succ, List.getElem_toArray, List.getElem_cons_zero, List.getElem_cons_succ]
  refine wpAnyH_take (i := 5) (v := ?_) rfl (by kernel_rfl) (by kernel_rfl) (by kernel_rfl) (fun _ _ _ h => h) (Or.inl ⟨by rfl, ?_⟩) hHeld ?_
  rotate_left
  · (intro w hSw; (try dsimp only at hSw); have s0 := hSw.1.cell 0; have s1 := hSw.1.cell 1; have s2 := hSw.1.cell 2; have s3 := hSw.1.cell 3; go_simp; try with_reducible rfl)
  try simp only [Act.put, List.setIfInBounds_toArray, List.set_cons_zero, List.set_cons_succ, List.getElem_toArray, List.getElem_cons_zero, List.getElem_cons_succ]
  refine wpAnyH_take (i := 6) (v := ?_) rfl (by kernel_rfl) (by kernel_rfl) (by kernel_rfl) (fun _ _ _ h => h) (Or.inl ⟨by rfl, ?_⟩) hHeld ?_
  rotate_left
  · (intro w hSw; (try dsimp only at hSw); have s0 := hSw.1.cell 0; have s1 := hSw.1.cell 1; have s2 := hSw.1.cell 2; have s3 := hSw.1.cell 3; go_simp; try with_reducible rfl)
  try simp only [Act.put, List.setIfInBounds_toArray, List.set_cons_zero, List.set_cons_succ, List.getElem_toArray, List.getElem_cons_zero, List.getElem_cons_succ]
  refine wpAnyH_take (i := 7) (v := ?_) rfl (by kernel_rfl) (by kernel_rfl) (by kernel_rfl) (fun _ _ _ h => h) (Or.inl ⟨by rfl, ?_⟩) hHeld ?_
  rotate_left
  · (intro w hSw; (try dsimp only at hSw); have s0 := hSw.1.cell 0; have s1 := hSw.1.cell 1; have s2 := hSw.1.cell 2; have s3 := hSw.1.cell 3; go_simp; try with_reducible rfl)
  try simp only [Act.put, List.setIfInBounds_toArray, List.set_cons_zero, List.set_cons_succ, List.getElem_toArray, List.getElem_cons_zero, List.getElem_cons_succ]
  refine wpAnyH_take (i := 8) (v := ?_) rfl (by kernel_rfl) (by kernel_rfl) (by kernel_rfl) (fun _ _ _ h => h) (Or.inl ⟨by rfl, ?_⟩) hHeld ?_
  rotate_left
  · (intro w hSw; (try dsimp only at hSw); go_simp; try with_reducible rfl)
  try simp only [Act.put, List.setIfInBounds_toArray, List.set_cons_zero, List.set_cons_succ, List.getElem_toArray, List.getElem_cons_zero, List.getElem_cons_succ]
  refine wpAnyH_take (i := 9) (v := ?_) rfl (by kernel_rfl) (by kernel_rfl) (by kernel_rfl) (fun _ _ _ h => h) (Or.inl ⟨by rfl, ?_⟩) hHeld ?_
  rotate_left
  · (intro w hSw; (try dsimp only at hSw); have sx := HA.out _ _ hSw.2.1; go_simp; try with_reducible rfl)
  try simp only [Act.put, List.setIfInBounds_toArray, List.set_cons_zero, List.set_cons_succ, List.getElem_toArray, List.getElem_cons_zero, List.getElem_cons_succ]
  refine wpAnyH_take (i := 10) (v := ?_) rfl (by kernel_rfl) (by kernel_rfl) (by kernel_rfl) (fun _ _ _ h => h) (Or.inl ⟨by rfl, ?_⟩) hHeld ?_
  rotate_left
  · (intro w hSw; (try dsimp only at hSw); have s0 := hSw.1.cell 0; have s1 := hSw.1.cell 1; have s2 := hSw.1.cell 2; have s3 := hSw.1.cell 3; go_simp; try with_reducible rfl)
  try simp only [Act.put, List.setIfInBounds_toArray, List.set_cons_zero, List.set_cons_succ, List.getElem_toArray, List.getElem_cons_zero, List.getElem_cons_succ]
  refine wpAnyH_take (i := 11) (v := ?_) rfl (by kernel_rfl) (by kernel_rfl) (by kernel_rfl) (fun _ _ _ h => h) (Or.inl ⟨by rfl, ?_⟩) hHeld ?_
  rotate_left
  · (intro w hSw; (try dsimp only at hSw); have s0 := hSw.1.cell 0; have s1 := hSw.1.cell 1; have s2 := hSw.1.cell 2; have s3 := hSw.1.cell 3; go_simp; try with_reducible rfl)
  try simp only [Act.put, List.setIfInBounds_toArray, List.set_cons_zero, List.set_cons_succ, List.getElem_toArray, List.getElem_cons_zero, List.getElem_cons_succ]
  refine wpAnyH_take (i := 12) (v := ?_) rfl (by kernel_rfl) (by kernel_rfl) (by kernel_rfl) (fun _ _ _ h => h) (Or.inl ⟨by rfl, ?_⟩) hHeld ?_
  rotate_left
  · (intro w hSw; (try dsimp only at hSw); have s0 := hSw.1.cell 0; have s1 := hSw.1.cell 1; have s2 := hSw.1.cell 2; have s3 := hSw.1.cell 3; go_simp; try with_reducible rfl)
  try simp only [Act.put, List.setIfInBounds_toArray, List.set_cons_zero, List.set_cons_succ, List.getElem_toArray, List.getElem_cons_zero, List.getElem_cons_succ]
  refine wpAnyH_take (i := 13) (v := ?_) rfl (by kernel_rfl) (by kernel_rfl) (by kernel_rfl) (fun _ _ _ h => h) (Or.inl ⟨by rfl, ?_⟩) hHeld ?_
  rotate_left
  · (intro w hSw; (try dsimp only at hSw); have s0 := hSw.1.cell 0; have s1 := hSw.1.cell 1; have s2 := hSw.1.cell 2; have s3 := hSw.1.cell 3; go_simp; try with_reducible rfl)
  try simp only [Act.put, List.setIfInBounds_toArray, List.set_cons_zero, List.set_cons_succ, List.getElem_toArray, List.getElem_cons_zero, List.getElem_cons_succ]
  refine wpAnyH_ready (rs := [14]) (by kernel_rfl) (by simp) ?_
  refine AllReadyH.cons rfl (fun K hK => ?_) AllReadyH.nil
  go_simp
  refine (HL.out _).mono ?_
  rintro e w2 ⟨rfl, b2⟩
  go_wp2_with fail
  refine hK.out _ _ (⟨hHeld.1.over b2, hHeld.2.1.over b2, hHeld.2.2.trans (b2.mono (hB1 ▸ hHeld.2.2.size))⟩) (fun hHeld => ?_)
  clear hK K
  try simp only [Act.put, List.setIfInBounds_toArray, List.set_cons_zero, List.set_cons_succ, List.getElem_toArray, List.getElem_cons_zero, List.getElem_cons_succ]
  refine wpAnyH_take (i := 15) (v := ?_) rfl (by kernel_rfl) (by kernel_rfl) (by kernel_rfl) (fun _ _ _ h => h) (Or.inl ⟨by rfl, ?_⟩) hHeld ?_
  rotate_left
  · (intro w hSw; (try dsimp only at hSw); go_simp; try with_reducible rfl)
  try simp only [Act.put, List.setIfInBounds_toArray, List.set_cons_zero, List.set_cons_succ, List.getElem_toArray, List.getElem_cons_zero, List.getElem_cons_succ]
  refine wpAnyH_take (i := 16) (v := ?_) rfl (by kernel_rfl) (by kernel_rfl) (by kernel_rfl) (fun _ _ _ h => h) (Or.inl ⟨by rfl, ?_⟩) hHeld ?_
  rotate_left
  · (intro w hSw; (try dsimp only at hSw); go_simp; try with_reducible rfl)
  try simp only [Act.put, List.setIfInBounds_toArray, List.set_cons_zero, List.set_cons_succ, List.getElem_toArray, List.getElem_cons_zero, List.getElem_cons_succ]
  refine wpAnyH_done (by kernel_rfl) ?_ _
  go_wp2_with fail
  go_ret
  exact ⟨rfl, by rw [hB1]; exact hHeld.2.2⟩

theorem holds_any (a o m v : Int) (d : Da) (w : World) (hd : d.ok) :
    Calls Tryz.prog 98 #[(.agg #[.int .i64 a, .int .i64 o, .int .u64 m, .int .u64 v]), d.val] w fun e w' => e = .returned (.bool (holdN a o m v (d.g.getD a.toNat 0))) ∧ Below w.heap.size w w' := by
  unfold holdN
  by_cases h : rightB a o = true
  · obtain ⟨h1, h2, _, _⟩ := right_bd h
    obtain ⟨k, rfl⟩ := Int.eq_ofNat_of_zero_le h1
    rw [h, Bool.true_and, Int.toNat_natCast]
    exact holds_right k o m v _ d.cells w (by omega) h (d.arg hd k (by omega)).1
  · have h' : rightB a o = false := by simpa using h
    rw [h', Bool.false_and]
    exact holds_wrong a o m v d.cells w h'


end Go.Proofs.YtpojlfenmanehaaGreat.M

namespace Go.Proofs.YtpojlfenmanehaaGreat.M
open Go.RowKit

theorem refCondR_any (a o m v : Int) (w : World) :
    Calls Tryz.prog 41 #[.agg #[.int .i64 a, .int .i64 o, .int .u64 m, .int .u64 v]] w fun e w' => e = .returned (.bool (rightB a o)) ∧ Below w.heap.size w w' := by
  have HB : Hid (∀ o, Below w.heap.size w (w.alloc o)) := below_new w
  go_enter Tryz.func41, Tryz.ntmps41
  go_wp2
  all_goals (go_ret; exact ⟨ret_bool (by simp [rightB, *] <;> omega), HB.out _⟩)

theorem refHeld_any (o x v : Int) (w : World) :
    Calls Tryz.prog 144 #[.int .i64 o, .int .u64 x, .int .u64 v] w fun e w' => e = .returned (.bool (heldB o x v)) ∧ w' = w := by
  go_enter Tryz.func144, Tryz.ntmps144
  go_wp2
  all_goals (go_ret; exact ⟨ret_bool (by simp [heldB, *] <;> rfl), rfl⟩)

set_option maxHeartbeats 400000 in
theorem refOf_any (a o m v x : Int) (w : World) :
    Calls Tryz.prog 119 #[(.agg #[.int .i64 a, .int .i64 o, .int .u64 m, .int .u64 v]), .int .u64 x] w fun e w' => e = .returned (.bool (holdN a o m v x)) ∧ Below w.heap.size w w' := by
  have HR : Hid (∀ W : World, Calls Tryz.prog 41 #[(.agg #[.int .i64 a, .int .i64 o, .int .u64 m, .int .u64 v])] W fun e w' => e = .returned (.bool (rightB a o)) ∧ Below W.heap.size W w') := fun W => refCondR_any a o m v W
  have HL : Hid (∀ W : World, Calls Tryz.prog 144 #[.int .i64 o, .int .u64 (an x m), .int .u64 v] W fun e w' => e = .returned (.bool (heldB o (an x m) v)) ∧ w' = W) := fun W => refHeld_any o (an x m) v W
  have ea : bits BinOp.and IntKind.u64 x m = an x m := rfl
  have HB : Hid (Blk (w.alloc (Obj.cells #[.int .i64 a, .int .i64 o, .int .u64 m, .int .u64 v] 54)) w.heap.size 54 [.int .i64 a, .int .i64 o, .int .u64 m, .int .u64 v]) := blk_new w _ 54
  have HB2 : Hid (Below w.heap.size w (w.alloc (Obj.cells #[.int .i64 a, .int .i64 o, .int .u64 m, .int .u64 v] 54))) := below_new w _
  unfold holdN
  generalize heldB o (an x m) v = q at *
  generalize an x m = y at *
  generalize rightB a o = r at *
  cases r with
  | true =>
    rw [Bool.true_and]
    go_enter Tryz.func119, Tryz.ntmps119
    go_wp2_with (first | (go_at_call 41; refine (HR.out _).mono ?_; rintro e w1 ⟨rfl, b1⟩; have c1 := (HB.out.over b1).cell 1; have c2 := (HB.out.over b1).cell 2; have c3 := (HB.out.over b1).cell 3; have B1 : Hid (Below w.heap.size w w1) := HB2.out.trans (b1.mono HB2.out.size); clear b1) | (go_at_call 144; refine (HL.out _).mono ?_; rintro e w2 ⟨rfl, rfl⟩))
    go_ret
    exact ⟨rfl, B1.out⟩
  | false =>
    rw [Bool.false_and]
    go_enter Tryz.func119, Tryz.ntmps119
    go_wp2_with (first | (go_at_call 41; refine (HR.out _).mono ?_; rintro e w1 ⟨rfl, b1⟩; have B1 : Hid (Below w.heap.size w w1) := HB2.out.trans (b1.mono HB2.out.size); clear b1))
    go_ret
    exact ⟨rfl, B1.out⟩

set_option maxHeartbeats 400000 in
theorem refHolds_wrong (a o m v : Int) (A : List Value) (w : World) (hr : rightB a o = false) :
    Calls Tryz.prog 90 #[(.agg #[.int .i64 a, .int .i64 o, .int .u64 m, .int .u64 v]), .agg A.toArray] w fun e w' => e = .returned (.bool false) ∧ Below w.heap.size w w' := by
  have HR : Hid (∀ W : World, Calls Tryz.prog 41 #[(.agg #[.int .i64 a, .int .i64 o, .int .u64 m, .int .u64 v])] W fun e w' => e = .returned (.bool false) ∧ Below W.heap.size W w') := fun W => hr ▸ refCondR_any a o m v W
  have HK : Hid (_ ∧ _ ∧ _) := two_new w [.int .i64 a, .int .i64 o, .int .u64 m, .int .u64 v] A
  clear hr
  go_enter Tryz.func90, Tryz.ntmps90
  go_wp2_with (first | (go_at_call 41; refine (HR.out _).mono ?_; rintro e w1 ⟨rfl, b1⟩; have B1 : Hid (Below w.heap.size w w1) := HK.out.2.2.trans (b1.mono HK.out.2.2.size); clear b1))
  go_ret
  exact ⟨rfl, B1.out⟩

set_option linter.unusedSimpArgs false in
set_option maxHeartbeats 1600000 in
theorem refHolds_right (k : Nat) (o m v x : Int) (A : List Value) (w : World) (hk : k < 6) (hr : rightB k o = true) (hA : A[3 + k]? = some (.int .u64 x)) :
    Calls Tryz.prog 90 #[(.agg #[.int .i64 (k : Int), .int .i64 o, .int .u64 m, .int .u64 v]), .agg A.toArray] w fun e w' => e = .returned (.bool (heldB o (an x m) v)) ∧ Below w.heap.size w w' := by
  have HR : Hid (∀ W : World, Calls Tryz.prog 41 #[(.agg #[.int .i64 (k : Int), .int .i64 o, .int .u64 m, .int .u64 v])] W fun e w' => e = .returned (.bool true) ∧ Below W.heap.size W w') := fun W => hr ▸ refCondR_any k o m v W
  have HO : Hid (∀ W : World, Calls Tryz.prog 119 #[(.agg #[.int .i64 (k : Int), .int .i64 o, .int .u64 m, .int .u64 v]), .int .u64 x] W fun e w' => e = .returned (.bool (heldB o (an x m) v)) ∧ Below W.heap.size W w') := by
    intro W
    have := refOf_any k o m v x W
    unfold holdN at this
    rw [hr, Bool.true_and] at this
    exact this
  have HK : Hid (_ ∧ _ ∧ _) := two_new w [.int .i64 (k : Int), .int .i64 o, .int .u64 m, .int .u64 v] A
  have HA : Hid (∀ X b, Blk X b 41 A → X.cell? ⟨b, 3 + k, none⟩ = some (.int .u64 x)) := fun X b h => (h.cell (3 + k)).trans hA
  have k1 : (0 : Int) ≤ (k : Int) := by omega
  have k2 : (k : Int) < 6 := by omega
  clear hr hA
  generalize heldB o (an x m) v = q at *
  go_enter Tryz.func90, Tryz.ntmps90
  go_wp2_with (first | (go_at_call 41; refine (HR.out _).mono ?_; rintro e w1 ⟨rfl, b1⟩; have K1 : Blk w1 w.heap.size 54 [.int .i64 (k : Int), .int .i64 o, .int .u64 m, .int .u64 v] ∧ Blk w1 (w.heap.size + 1) 41 A ∧ Below w.heap.size w w1 := ⟨HK.out.1.over b1, HK.out.2.1.over b1, HK.out.2.2.trans (b1.mono HK.out.2.2.size)⟩; clear b1 HK))
  generalize hB1 : w.heap.size = B1 at *
  generalize hB2 : B1 + 1 = B2 at *
  refine wp_region_held_drew (S := (fun X => Blk X B1 54 [.int .i64 (k : Int), .int .i64 o, .int .u64 m, .int .u64 v] ∧ Blk X B2 41 A ∧ Below B1 w X)) (by kernel_rfl) (⟨K1.1.drew, K1.2.1.drew, K1.2.2.drew⟩) (fun hHeld => ?_)
  simp only [List.size_toArray, List.length_cons, List.length_nil, Nat.reduceAdd]
  refine wpAnyH_take (i := 0) (v := ?_) rfl (by kernel_rfl) (by kernel_rfl) (by kernel_rfl) (fun _ _ _ h => h) (Or.inl ⟨by rfl, ?_⟩) hHeld ?_
  rotate_left
  · (intro w hSw; (try dsimp only at hSw); have s0 := hSw.1.cell 0; have s1 := hSw.1.cell 1; have s2 := hSw.1.cell 2; have s3 := hSw.1.cell 3; go_simp; try with_reducible rfl)
  try simp only [Act.put, List.setIfInBounds_toArray, List.set_cons_zero, List.set_cons_succ, List.getElem_toArray, List.getElem_cons_zero, List.getElem_cons_succ]
  refine wpAnyH_take (i := 1) (v := ?_) rfl (by kernel_rfl) (by kernel_rfl) (by kernel_rfl) (fun _ _ _ h => h) (Or.inl ⟨by rfl, ?_⟩) hHeld ?_
  rotate_left
  · (intro w hSw; (try dsimp only at hSw); have s0 := hSw.1.cell 0; have s1 := hSw.1.cell 1; have s2 := hSw.1.cell 2; have s3 := hSw.1.cell 3; go_simp; try with_reducible rfl)
  try simp only [Act.put, List.setIfInBounds_toArray, List.set_cons_zero, List.set_cons_succ, List.getElem_toArray, List.getElem_cons_zero, List.getElem_cons_succ]
  refine wpAnyH_take (i := 2) (v := ?_) rfl (by kernel_rfl) (by kernel_rfl) (by kernel_rfl) (fun _ _ _ h => h) (Or.inl ⟨by rfl, ?_⟩) hHeld ?_
  rotate_left
  · (intro w hSw; (try dsimp only at hSw); have s0 := hSw.1.cell 0; have s1 := hSw.1.cell 1; have s2 := hSw.1.cell 2; have s3 := hSw.1.cell 3; go_simp; try with_reducible rfl)
  try simp only [Act.put, List.setIfInBounds_toArray, List.set_cons_zero, List.set_cons_succ, List.getElem_toArray, List.getElem_cons_zero, List.getElem_cons_succ]
  refine wpAnyH_take (i := 3) (v := ?_) rfl (by kernel_rfl) (by kernel_rfl) (by kernel_rfl) (fun _ _ _ h => h) (Or.inl ⟨by rfl, ?_⟩) hHeld ?_
  rotate_left
  · (intro w hSw; (try dsimp only at hSw); have s0 := hSw.1.cell 0; have s1 := hSw.1.cell 1; have s2 := hSw.1.cell 2; have s3 := hSw.1.cell 3; go_simp; try with_reducible rfl)
  try simp only [Act.put, List.setIfInBounds_toArray, List.set_cons_zero, List.set_cons_succ, List.getElem_toArray, List.getElem_cons_zero, List.getElem_cons_succ]
  refine wpAnyH_take (i := 4) (v := ?_) rfl (by kernel_rfl) (by kernel_rfl) (by kernel_rfl) (fun _ _ _ h => h) (Or.inl ⟨by rfl, ?_⟩) hHeld ?_
  rotate_left
  · (intro w hSw; (try dsimp only at hSw); go_simp; try with_reducible rfl)
  try simp only [Act.put, List.setIfInBounds_toArray, List.set_cons_zero, List.set_cons_succ, List.getElem_toArray, List.getElem_cons_zero, List.getElem_cons_succ]
  refine wpAnyH_take (i := 5) (v := ?_) rfl (by kernel_rfl) (by kernel_rfl) (by kernel_rfl) (fun _ _ _ h => h) (Or.inl ⟨by rfl, ?_⟩) hHeld ?_
  rotate_left
  · (intro w hSw; (try dsimp only at hSw); have sx := HA.out _ _ hSw.2.1; go_simp; try with_reducible rfl)
  try simp only [Act.put, List.setIfInBounds_toArray, List.set_cons_zero, List.set_cons_succ, List.getElem_toArray, List.getElem_cons_zero, List.getElem_cons_succ]
  refine wpAnyH_ready (rs := [6]) (by kernel_rfl) (by simp) ?_
  refine AllReadyH.cons rfl (fun K hK => ?_) AllReadyH.nil
  go_simp
  refine (HO.out _).mono ?_
  rintro e w2 ⟨rfl, b2⟩
  go_wp2_with fail
  refine hK.out _ _ (⟨hHeld.1.over b2, hHeld.2.1.over b2, hHeld.2.2.trans (b2.mono (hB1 ▸ hHeld.2.2.size))⟩) (fun hHeld => ?_)
  clear hK K
  try simp only [Act.put, List.setIfInBounds_toArray, List.set_cons_zero, List.set_cons_succ, List.getElem_toArray, List.getElem_cons_zero, List.getElem_cons_succ]
  refine wpAnyH_take (i := 7) (v := ?_) rfl (by kernel_rfl) (by kernel_rfl) (by kernel_rfl) (fun _ _ _ h => h) (Or.inl ⟨by rfl, ?_⟩) hHeld ?_
  rotate_left
  · (intro w hSw; (try dsimp only at hSw); go_simp; try with_reducible rfl)
  try simp only [Act.put, List.setIfInBounds_toArray, List.set_cons_zero, List.set_cons_succ, List.getElem_toArray, List.getElem_cons_zero, List.getElem_cons_succ]
  refine wpAnyH_done (by kernel_rfl) ?_ _
  go_wp2_with fail
  go_ret
  exact ⟨rfl, by rw [hB1]; exact hHeld.2.2⟩

theorem refHolds_any (a o m v : Int) (d : Da) (w : World) (hd : d.ok) :
    Calls Tryz.prog 90 #[(.agg #[.int .i64 a, .int .i64 o, .int .u64 m, .int .u64 v]), d.val] w fun e w' => e = .returned (.bool (holdN a o m v (d.g.getD a.toNat 0))) ∧ Below w.heap.size w w' := by
  unfold holdN
  by_cases h : rightB a o = true
  · obtain ⟨h1, h2, _, _⟩ := right_bd h
    obtain ⟨k, rfl⟩ := Int.eq_ofNat_of_zero_le h1
    rw [h, Bool.true_and, Int.toNat_natCast]
    exact refHolds_right k o m v _ d.cells w (by omega) h (d.arg hd k (by omega)).1
  · have h' : rightB a o = false := by simpa using h
    rw [h', Bool.false_and]
    exact refHolds_wrong a o m v d.cells w h'


end Go.Proofs.YtpojlfenmanehaaGreat.M

