/-
  Whether a condition holds of a call, by the document: proved of every condition and call.
-/
import Derived.Test.YtimclfdecdappaaCHolds
namespace Go.Proofs.Ytimclfdecdappaa
open Go.RowKit

theorem refCondR_any (a o m v : Int) (w : World) :
    Calls Try.prog 45 #[.agg #[.int .i64 a, .int .i64 o, .int .u64 m, .int .u64 v]] w fun e w' => e = .returned (.bool (rightB a o)) ∧ Below w.heap.size w w' := by
  have HB : Hid (∀ o, Below w.heap.size w (w.alloc o)) := below_new w
  go_enter Try.func45, Try.ntmps45
  go_wp2
  all_goals (go_ret; exact ⟨ret_bool (by simp [rightB, *] <;> omega), HB.out _⟩)

theorem refHeld_any (o x v : Int) (w : World) :
    Calls Try.prog 82 #[.int .i64 o, .int .u64 x, .int .u64 v] w fun e w' => e = .returned (.bool (heldB o x v)) ∧ w' = w := by
  go_enter Try.func82, Try.ntmps82
  go_wp2
  all_goals (go_ret; exact ⟨ret_bool (by simp [heldB, *] <;> rfl), rfl⟩)

set_option maxHeartbeats 400000 in
theorem refOf_any (a o m v x : Int) (w : World) :
    Calls Try.prog 60 #[(.agg #[.int .i64 a, .int .i64 o, .int .u64 m, .int .u64 v]), .int .u64 x] w fun e w' => e = .returned (.bool (holdN a o m v x)) ∧ Below w.heap.size w w' := by
  have HR : Hid (∀ W : World, Calls Try.prog 45 #[(.agg #[.int .i64 a, .int .i64 o, .int .u64 m, .int .u64 v])] W fun e w' => e = .returned (.bool (rightB a o)) ∧ Below W.heap.size W w') := fun W => refCondR_any a o m v W
  have HL : Hid (∀ W : World, Calls Try.prog 82 #[.int .i64 o, .int .u64 (an x m), .int .u64 v] W fun e w' => e = .returned (.bool (heldB o (an x m) v)) ∧ w' = W) := fun W => refHeld_any o (an x m) v W
  have ea : bits BinOp.and IntKind.u64 x m = an x m := rfl
  have HB : Hid (Blk (w.alloc (Obj.cells #[.int .i64 a, .int .i64 o, .int .u64 m, .int .u64 v] 55)) w.heap.size 55 [.int .i64 a, .int .i64 o, .int .u64 m, .int .u64 v]) := blk_new w _ 55
  have HB2 : Hid (Below w.heap.size w (w.alloc (Obj.cells #[.int .i64 a, .int .i64 o, .int .u64 m, .int .u64 v] 55))) := below_new w _
  unfold holdN
  generalize heldB o (an x m) v = q at *
  generalize an x m = y at *
  generalize rightB a o = r at *
  cases r with
  | true =>
    rw [Bool.true_and]
    go_enter Try.func60, Try.ntmps60
    go_wp2_with (first | (go_at_call 45; refine (HR.out _).mono ?_; rintro e w1 ⟨rfl, b1⟩; have c1 := (HB.out.over b1).cell 1; have c2 := (HB.out.over b1).cell 2; have c3 := (HB.out.over b1).cell 3; have B1 : Hid (Below w.heap.size w w1) := HB2.out.trans (b1.mono HB2.out.size); clear b1) | (go_at_call 82; refine (HL.out _).mono ?_; rintro e w2 ⟨rfl, rfl⟩))
    go_ret
    exact ⟨rfl, B1.out⟩
  | false =>
    rw [Bool.false_and]
    go_enter Try.func60, Try.ntmps60
    go_wp2_with (first | (go_at_call 45; refine (HR.out _).mono ?_; rintro e w1 ⟨rfl, b1⟩; have B1 : Hid (Below w.heap.size w w1) := HB2.out.trans (b1.mono HB2.out.size); clear b1))
    go_ret
    exact ⟨rfl, B1.out⟩

set_option maxHeartbeats 400000 in
theorem refHolds_wrong (a o m v : Int) (A : List Value) (w : World) (hr : rightB a o = false) :
    Calls Try.prog 47 #[(.agg #[.int .i64 a, .int .i64 o, .int .u64 m, .int .u64 v]), .agg A.toArray] w fun e w' => e = .returned (.bool false) ∧ Below w.heap.size w w' := by
  have HR : Hid (∀ W : World, Calls Try.prog 45 #[(.agg #[.int .i64 a, .int .i64 o, .int .u64 m, .int .u64 v])] W fun e w' => e = .returned (.bool false) ∧ Below W.heap.size W w') := fun W => hr ▸ refCondR_any a o m v W
  have HK : Hid (_ ∧ _ ∧ _) := two_new w [.int .i64 a, .int .i64 o, .int .u64 m, .int .u64 v] A
  clear hr
  go_enter Try.func47, Try.ntmps47
  go_wp2_with (first | (go_at_call 45; refine (HR.out _).mono ?_; rintro e w1 ⟨rfl, b1⟩; have B1 : Hid (Below w.heap.size w w1) := HK.out.2.2.trans (b1.mono HK.out.2.2.size); clear b1))
  go_ret
  exact ⟨rfl, B1.out⟩

set_option linter.unusedSimpArgs false in
set_option maxHeartbeats 1600000 in
theorem refHolds_right (k : Nat) (o m v x : Int) (A : List Value) (w : World) (hk : k < 6) (hr : rightB k o = true) (hA : A[3 + k]? = some (.int .u64 x)) :
    Calls Try.prog 47 #[(.agg #[.int .i64 (k : Int), .int .i64 o, .int .u64 m, .int .u64 v]), .agg A.toArray] w fun e w' => e = .returned (.bool (heldB o (an x m) v)) ∧ Below w.heap.size w w' := by
  have HR : Hid (∀ W : World, Calls Try.prog 45 #[(.agg #[.int .i64 (k : Int), .int .i64 o, .int .u64 m, .int .u64 v])] W fun e w' => e = .returned (.bool true) ∧ Below W.heap.size W w') := fun W => hr ▸ refCondR_any k o m v W
  have HO : Hid (∀ W : World, Calls Try.prog 60 #[(.agg #[.int .i64 (k : Int), .int .i64 o, .int .u64 m, .int .u64 v]), .int .u64 x] W fun e w' => e = .returned (.bool (heldB o (an x m) v)) ∧ Below W.heap.size W w') := by
    intro W
    have := refOf_any k o m v x W
    unfold holdN at this
    rw [hr, Bool.true_and] at this
    exact this
  have HK : Hid (_ ∧ _ ∧ _) := two_new w [.int .i64 (k : Int), .int .i64 o, .int .u64 m, .int .u64 v] A
  have HA : Hid (∀ X b, Blk X b 41 A → X.cell? ⟨b, 3 + k, none⟩ = some (.int .u64 x)) := fun X b h => (h.cell (3 + k)).trans hA
  have k1 : (0 : Int) ≤ (k : Int) := by omega
  have k2 : (k : Int) < 6 := by omega
  clear hr hA
  generalize heldB o (an x m) v = q at *
  go_enter Try.func47, Try.ntmps47
  go_wp2_with (first | (go_at_call 45; refine (HR.out _).mono ?_; rintro e w1 ⟨rfl, b1⟩; have K1 : Blk w1 w.heap.size 55 [.int .i64 (k : Int), .int .i64 o, .int .u64 m, .int .u64 v] ∧ Blk w1 (w.heap.size + 1) 41 A ∧ Below w.heap.size w w1 := ⟨HK.out.1.over b1, HK.out.2.1.over b1, HK.out.2.2.trans (b1.mono HK.out.2.2.size)⟩; clear b1 HK))
  generalize hB1 : w.heap.size = B1 at *
  generalize hB2 : B1 + 1 = B2 at *
  refine wp_region_held_drew (S := (fun X => Blk X B1 55 [.int .i64 (k : Int), .int .i64 o, .int .u64 m, .int .u64 v] ∧ Blk X B2 41 A ∧ Below B1 w X)) (by kernel_rfl) (⟨K1.1.drew, K1.2.1.drew, K1.2.2.drew⟩) (fun hHeld => ?_)
  simp only [List.size_toArray, List.length_cons, List.length_nil, Nat.reduceAdd]
  refine wpAnyH_take (i := 0) (v := ?_) rfl (by kernel_rfl) (by kernel_rfl) (by kernel_rfl) (fun _ _ _ h => h) (Or.inl ⟨by rfl, ?_⟩) hHeld ?_
  rotate_left
  · (intro w hSw; (try dsimp only at hSw); have s0 := hSw.1.cell 0; have s1 := hSw.1.cell 1; have s2 := hSw.1.cell 2; have s3 := hSw.1.cell 3; go_simp; try with_reducible rfl)
  try simp only [Act.put, List.setIfInBounds_toArray, List.set_cons_zero, List.set_cons_succ, List.getElem_toArray, List.getElem_cons_zero, List.getElem_cons_succ]
  refine wpAnyH_take (i := 1) (v := ?_) rfl (by kernel_rfl) (by kernel_rfl) (by kernel_rfl) (fun _ _ _ h => h) (Or.inl ⟨by rfl, ?_⟩) hHeld ?_
  rotate_left
  · (intro w hSw; (try dsimp only at hSw); have s0 := hSw.1.cell 0; have s1 := hSw.1.cell 1; have s2 := hSw.1.cell 2; have s3 := hSw.1.cell 3; go_simp; try with_reducible rfl)
  try simp only [Act.put, List.setIfInBounds_toArray, List.set_cons_zero, List.set_cons_succ, List.getElem_toArray, List.getElem_cons_zero, List.getElem_cons_succ]
  refine wpAnyH_take (i := 2) (v := ?_) rfl (by kernel_rfl) (by kernel_rfl) (by kernel_rfl) (fun _ _ _ h => h) (Or.inl ⟨by rfl, ?_⟩) hHeld ?_
  rotate_left
  · (intro w hSw; (try dsimp only at hSw); have s0 := hSw.1.cell 0; have s1 := hSw.1.cell 1; have s2 := hSw.1.cell 2; have s3 := hSw.1.cell 3; go_simp; try with_reducible rfl)
  try simp only [Act.put, List.setIfInBounds_toArray, List.set_cons_zero, List.set_cons_succ, List.getElem_toArray, List.getElem_cons_zero, List.getElem_cons_succ]
  refine wpAnyH_take (i := 3) (v := ?_) rfl (by kernel_rfl) (by kernel_rfl) (by kernel_rfl) (fun _ _ _ h => h) (Or.inl ⟨by rfl, ?_⟩) hHeld ?_
  rotate_left
  · (intro w hSw; (try dsimp only at hSw); have s0 := hSw.1.cell 0; have s1 := hSw.1.cell 1; have s2 := hSw.1.cell 2; have s3 := hSw.1.cell 3; go_simp; try with_reducible rfl)
  try simp only [Act.put, List.setIfInBounds_toArray, List.set_cons_zero, List.set_cons_succ, List.getElem_toArray, List.getElem_cons_zero, List.getElem_cons_succ]
  refine wpAnyH_take (i := 4) (v := ?_) rfl (by kernel_rfl) (by kernel_rfl) (by kernel_rfl) (fun _ _ _ h => h) (Or.inl ⟨by rfl, ?_⟩) hHeld ?_
  rotate_left
  · (intro w hSw; (try dsimp only at hSw); go_simp; try with_reducible rfl)
  try simp only [Act.put, List.setIfInBounds_toArray, List.set_cons_zero, List.set_cons_succ, List.getElem_toArray, List.getElem_cons_zero, List.getElem_cons_succ]
  refine wpAnyH_take (i := 5) (v := ?_) rfl (by kernel_rfl) (by kernel_rfl) (by kernel_rfl) (fun _ _ _ h => h) (Or.inl ⟨by rfl, ?_⟩) hHeld ?_
  rotate_left
  · (intro w hSw; (try dsimp only at hSw); have sx := HA.out _ _ hSw.2.1; go_simp; try with_reducible rfl)
  try simp only [Act.put, List.setIfInBounds_toArray, List.set_cons_zero, List.set_cons_succ, List.getElem_toArray, List.getElem_cons_zero, List.getElem_cons_succ]
  refine wpAnyH_ready (rs := [6]) (by kernel_rfl) (by simp) ?_
  refine AllReadyH.cons rfl (fun K hK => ?_) AllReadyH.nil
  go_simp
  refine (HO.out _).mono ?_
  rintro e w2 ⟨rfl, b2⟩
  go_wp2_with fail
  refine hK.out _ _ (⟨hHeld.1.over b2, hHeld.2.1.over b2, hHeld.2.2.trans (b2.mono (hB1 ▸ hHeld.2.2.size))⟩) (fun hHeld => ?_)
  clear hK K
  try simp only [Act.put, List.setIfInBounds_toArray, List.set_cons_zero, List.set_cons_succ, List.getElem_toArray, List.getElem_cons_zero, List.getElem_cons_succ]
  refine wpAnyH_take (i := 7) (v := ?_) rfl (by kernel_rfl) (by kernel_rfl) (by kernel_rfl) (fun _ _ _ h => h) (Or.inl ⟨by rfl, ?_⟩) hHeld ?_
  rotate_left
  · (intro w hSw; (try dsimp only at hSw); go_simp; try with_reducible rfl)
  try simp only [Act.put, List.setIfInBounds_toArray, List.set_cons_zero, List.set_cons_succ, List.getElem_toArray, List.getElem_cons_zero, List.getElem_cons_succ]
  refine wpAnyH_done (by kernel_rfl) ?_ _
  go_wp2_with fail
  go_ret
  exact ⟨rfl, by rw [hB1]; exact hHeld.2.2⟩

theorem refHolds_any (a o m v : Int) (d : Da) (w : World) (hd : d.ok) :
    Calls Try.prog 47 #[(.agg #[.int .i64 a, .int .i64 o, .int .u64 m, .int .u64 v]), d.val] w fun e w' => e = .returned (.bool (holdN a o m v (d.g.getD a.toNat 0))) ∧ Below w.heap.size w w' := by
  unfold holdN
  by_cases h : rightB a o = true
  · obtain ⟨h1, h2, _, _⟩ := right_bd h
    obtain ⟨k, rfl⟩ := Int.eq_ofNat_of_zero_le h1
    rw [h, Bool.true_and, Int.toNat_natCast]
    exact refHolds_right k o m v _ d.cells w (by omega) h (d.arg hd k (by omega)).1
  · have h' : rightB a o = false := by simpa using h
    rw [h', Bool.false_and]
    exact refHolds_wrong a o m v d.cells w h'


end Go.Proofs.Ytimclfdecdappaa
