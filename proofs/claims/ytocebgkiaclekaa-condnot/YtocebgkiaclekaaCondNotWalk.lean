/-
  The law CondNot, walked: true for every condition and call.
-/
import Derived.Test.YtocebgkiaclekaaAwake
import Derived.Test.YtocebgkiaclekaaOpen
import Derived.Deep.RegionHeld3
namespace Go.Proofs.Ytocebgkiaclekaa
open Go.RowKit

set_option maxHeartbeats 2000000 in
theorem condNot_wrong (a o m v : Int) (d : Da) (w : World) (hd : d.ok) (hr : rightB a o = false) :
    Calls Try.prog 7 #[(.agg #[.int .i64 a, .int .i64 o, .int .u64 m, .int .u64 v]), d.val] w fun e w' => e = .returned (.bool true) ∧ Below w.heap.size w w' := by
  have HW : Hid (∀ W : World, Calls Try.prog 9 #[] W fun e w' => e = .returned (.bool true) ∧ Below W.heap.size W w') := awake_any
  have H1 : Hid (∀ W : World, Calls Try.prog 14 #[(.agg #[.int .i64 a, .int .i64 o, .int .u64 m, .int .u64 v])] W fun e w' => e = .returned (.tuple #[.agg #[.int .i64 0, .int .i64 0, .int .u64 0, .int .u64 0], .int .i64 1]) ∧ Below W.heap.size W w') := fun W => not_wrong a o m v W hr
  have H2 : Hid (∀ W : World, Calls Try.prog 10 #[(.agg #[.int .i64 a, .int .i64 o, .int .u64 m, .int .u64 v])] W fun e w' => e = .returned (.bool false) ∧ Below W.heap.size W w') := fun W => hr ▸ right_any a o m v W
  have H3 : Hid (∀ W : World, Calls Try.prog 12 #[(.agg #[.int .i64 a, .int .i64 o, .int .u64 m, .int .u64 v]), d.val] W fun e w' => e = .returned (.bool false) ∧ Below W.heap.size W w') := by
    intro W
    have := holds_any a o m v d W hd
    unfold holdN at this
    rw [hr, Bool.false_and] at this
    exact this
  have hq : ∀ W : World, (Op.equalIn 10000 24 (.agg #[.int .i64 0, .int .i64 0, .int .u64 0, .int .u64 0]) (.agg #[.int .i64 0, .int .i64 0, .int .u64 0, .int .u64 0])).run Try.prog W = .ok true W := fun W => equalIn_co 0 0 0 0 0 0 0 0 W
  have hl := hd.2.2.2.1
  clear hd hr
  obtain ⟨n, ar, p, g⟩ := d
  obtain ⟨x0, x1, x2, x3, x4, x5, rfl⟩ := six_of hl
  clear hl
  unfold Da.val Da.cells at *
  simp only [List.map_cons, List.map_nil] at *
  have HK := two_new w [.int .i64 a, .int .i64 o, .int .u64 m, .int .u64 v] [.int .u32 n, .int .u32 ar, .int .u64 p, .int .u64 x0, .int .u64 x1, .int .u64 x2, .int .u64 x3, .int .u64 x4, .int .u64 x5]
  go_enter Try.func7, Try.ntmps7
  go_wp2_with fail
  generalize (w.alloc (Obj.cells #[.int .i64 a, .int .i64 o, .int .u64 m, .int .u64 v] 24)).alloc (Obj.cells #[.int .u32 n, .int .u32 ar, .int .u64 p, .int .u64 x0, .int .u64 x1, .int .u64 x2, .int .u64 x3, .int .u64 x4, .int .u64 x5] 28) = W0 at *
  refine (HW.out _).mono ?_
  rintro e X ⟨rfl, bX⟩
  have k1 := HK.1.over bX
  have k2 := HK.2.1.over bX
  have k3 := HK.2.2.trans (bX.mono HK.2.2.size)
  have q0 := (k1).cell 0
  have q1 := (k1).cell 1
  have q2 := (k1).cell 2
  have q3 := (k1).cell 3
  go_wp2_with fail
  refine (H1.out _).mono ?_
  rintro e Y ⟨rfl, bY⟩
  have l1 := k1.over bY
  have l2 := k2.over bY
  have l3 := k3.trans (bY.mono k3.size)
  have qy0 : ∀ ob, (Y.alloc ob).cell? ⟨w.heap.size, 0, none⟩ = some (.int .i64 a) := fun ob => (l1.alloc ob).cell 0
  have qy1 : ∀ ob, (Y.alloc ob).cell? ⟨w.heap.size, 1, none⟩ = some (.int .i64 o) := fun ob => (l1.alloc ob).cell 1
  have qy2 : ∀ ob, (Y.alloc ob).cell? ⟨w.heap.size, 2, none⟩ = some (.int .u64 m) := fun ob => (l1.alloc ob).cell 2
  have qy3 : ∀ ob, (Y.alloc ob).cell? ⟨w.heap.size, 3, none⟩ = some (.int .u64 v) := fun ob => (l1.alloc ob).cell 3
  go_wp2_with fail
  have m1 := l1.alloc (Obj.cells #[.int .i64 0, .int .i64 0, .int .u64 0, .int .u64 0] 24)
  have m2 := l2.alloc (Obj.cells #[.int .i64 0, .int .i64 0, .int .u64 0, .int .u64 0] 24)
  have m3 := blk_new Y #[.int .i64 0, .int .i64 0, .int .u64 0, .int .u64 0] 24
  have m4 := l3.trans ((below_new Y (Obj.cells #[.int .i64 0, .int .i64 0, .int .u64 0, .int .u64 0] 24)).mono l3.size)
  clear HK bX k1 k2 k3 q0 q1 q2 q3 bY l1 l2 l3 qy0 qy1 qy2 qy3
  generalize Y.alloc (Obj.cells #[.int .i64 0, .int .i64 0, .int .u64 0, .int .u64 0] 24) = Y1 at *
  generalize Y.heap.size = G1 at *
  refine (H2.out _).mono ?_
  rintro e Z ⟨rfl, bZ⟩
  have n1 := m1.over bZ
  have n2 := m2.over bZ
  have n3 := m3.over bZ
  have n4 := m4.trans (bZ.mono m4.size)
  clear m1 m2 m3 m4 bZ
  have n4' : Hid (Below w.heap.size w Z) := n4
  have z0 := (n1).cell 0
  have z1 := (n1).cell 1
  have z2 := (n1).cell 2
  have z3 := (n1).cell 3
  have y0 := (n2).cell 0
  have y1 := (n2).cell 1
  have y2 := (n2).cell 2
  have y3 := (n2).cell 3
  have y4 := (n2).cell 4
  have y5 := (n2).cell 5
  have y6 := (n2).cell 6
  have y7 := (n2).cell 7
  have y8 := (n2).cell 8
  have u0 := (n3).cell 0
  have u1 := (n3).cell 1
  have u2 := (n3).cell 2
  have u3 := (n3).cell 3
  clear n1 n2 n3 n4
  go_wp2_with (first | (go_at_call 12; refine (H3.out _).mono ?_; rintro e V ⟨rfl, bV⟩; have n5 : Hid (Below w.heap.size w V) := n4'.out.trans (bV.mono n4'.out.size); clear bV))
  go_ret
  exact ⟨rfl, n5.out⟩

set_option linter.unusedSimpArgs false in
set_option maxHeartbeats 4000000 in
theorem condNot_right (a o m v : Int) (d : Da) (w : World) (hd : d.ok) (hr : rightB a o = true) :
    Calls Try.prog 7 #[(.agg #[.int .i64 a, .int .i64 o, .int .u64 m, .int .u64 v]), d.val] w fun e w' => e = .returned (.bool true) ∧ Below w.heap.size w w' := by
  have HW : Hid (∀ W : World, Calls Try.prog 9 #[] W fun e w' => e = .returned (.bool true) ∧ Below W.heap.size W w') := awake_any
  have H1 : Hid (∀ W : World, Calls Try.prog 14 #[(.agg #[.int .i64 a, .int .i64 o, .int .u64 m, .int .u64 v])] W fun e w' => e = .returned (.tuple #[.agg #[.int .i64 a, .int .i64 (opp o), .int .u64 m, .int .u64 v], .int .i64 0]) ∧ Below W.heap.size W w') := fun W => not_right a o m v W hr
  have H2 : Hid (∀ W : World, Calls Try.prog 10 #[(.agg #[.int .i64 a, .int .i64 o, .int .u64 m, .int .u64 v])] W fun e w' => e = .returned (.bool true) ∧ Below W.heap.size W w') := fun W => hr ▸ right_any a o m v W
  have hro := right_opp hr
  obtain ⟨_, _, h3, h4⟩ := right_bd hr
  have H3 : Hid (∀ W : World, Calls Try.prog 14 #[.agg #[.int .i64 a, .int .i64 (opp o), .int .u64 m, .int .u64 v]] W fun e w' => e = .returned (.tuple #[.agg #[.int .i64 a, .int .i64 o, .int .u64 m, .int .u64 v], .int .i64 0]) ∧ Below W.heap.size W w') := by
    intro W
    have := not_right a (opp o) m v W hro
    rw [opp_opp h3 h4] at this
    exact this
  have H4 : Hid (∀ W : World, Calls Try.prog 12 #[(.agg #[.int .i64 a, .int .i64 o, .int .u64 m, .int .u64 v]), d.val] W fun e w' => e = .returned (.bool (heldB o (an (d.g.getD a.toNat 0) m) v)) ∧ Below W.heap.size W w') := by
    intro W
    have := holds_any a o m v d W hd
    unfold holdN at this
    rw [hr, Bool.true_and] at this
    exact this
  have H5 : Hid (∀ W : World, Calls Try.prog 12 #[.agg #[.int .i64 a, .int .i64 (opp o), .int .u64 m, .int .u64 v], d.val] W fun e w' => e = .returned (.bool (!heldB o (an (d.g.getD a.toNat 0) m) v)) ∧ Below W.heap.size W w') := by
    intro W
    have := holds_any a (opp o) m v d W hd
    unfold holdN at this
    rw [hro, Bool.true_and, held_opp h3 h4] at this
    exact this
  have hq : ∀ W : World, (Op.equalIn 10000 24 (.agg #[.int .i64 a, .int .i64 o, .int .u64 m, .int .u64 v]) (.agg #[.int .i64 a, .int .i64 o, .int .u64 m, .int .u64 v])).run Try.prog W = .ok true W := fun W => (equalIn_co a o m v a o m v W).trans (by rw [sameC_self])
  have hl := hd.2.2.2.1
  clear hd hr hro h3 h4
  generalize heldB o (an (d.g.getD a.toNat 0) m) v = q at *
  generalize opp o = po at *
  obtain ⟨n, ar, p, g⟩ := d
  obtain ⟨x0, x1, x2, x3, x4, x5, rfl⟩ := six_of hl
  clear hl
  unfold Da.val Da.cells at *
  simp only [List.map_cons, List.map_nil] at *
  have HK := two_new w [.int .i64 a, .int .i64 o, .int .u64 m, .int .u64 v] [.int .u32 n, .int .u32 ar, .int .u64 p, .int .u64 x0, .int .u64 x1, .int .u64 x2, .int .u64 x3, .int .u64 x4, .int .u64 x5]
  go_enter Try.func7, Try.ntmps7
  go_wp2_with fail
  generalize (w.alloc (Obj.cells #[.int .i64 a, .int .i64 o, .int .u64 m, .int .u64 v] 24)).alloc (Obj.cells #[.int .u32 n, .int .u32 ar, .int .u64 p, .int .u64 x0, .int .u64 x1, .int .u64 x2, .int .u64 x3, .int .u64 x4, .int .u64 x5] 28) = W0 at *
  refine (HW.out _).mono ?_
  rintro e X ⟨rfl, bX⟩
  have k1 := HK.1.over bX
  have k2 := HK.2.1.over bX
  have k3 := HK.2.2.trans (bX.mono HK.2.2.size)
  have q0 := (k1).cell 0
  have q1 := (k1).cell 1
  have q2 := (k1).cell 2
  have q3 := (k1).cell 3
  go_wp2_with fail
  refine (H1.out _).mono ?_
  rintro e Y ⟨rfl, bY⟩
  have l1 := k1.over bY
  have l2 := k2.over bY
  have l3 := k3.trans (bY.mono k3.size)
  have qy0 : ∀ ob, (Y.alloc ob).cell? ⟨w.heap.size, 0, none⟩ = some (.int .i64 a) := fun ob => (l1.alloc ob).cell 0
  have qy1 : ∀ ob, (Y.alloc ob).cell? ⟨w.heap.size, 1, none⟩ = some (.int .i64 o) := fun ob => (l1.alloc ob).cell 1
  have qy2 : ∀ ob, (Y.alloc ob).cell? ⟨w.heap.size, 2, none⟩ = some (.int .u64 m) := fun ob => (l1.alloc ob).cell 2
  have qy3 : ∀ ob, (Y.alloc ob).cell? ⟨w.heap.size, 3, none⟩ = some (.int .u64 v) := fun ob => (l1.alloc ob).cell 3
  go_wp2_with fail
  have m1 := l1.alloc (Obj.cells #[.int .i64 a, .int .i64 po, .int .u64 m, .int .u64 v] 24)
  have m2 := l2.alloc (Obj.cells #[.int .i64 a, .int .i64 po, .int .u64 m, .int .u64 v] 24)
  have m3 := blk_new Y #[.int .i64 a, .int .i64 po, .int .u64 m, .int .u64 v] 24
  have m4 := l3.trans ((below_new Y (Obj.cells #[.int .i64 a, .int .i64 po, .int .u64 m, .int .u64 v] 24)).mono l3.size)
  clear HK bX k1 k2 k3 q0 q1 q2 q3 bY l1 l2 l3 qy0 qy1 qy2 qy3
  generalize Y.alloc (Obj.cells #[.int .i64 a, .int .i64 po, .int .u64 m, .int .u64 v] 24) = Y1 at *
  generalize Y.heap.size = G1 at *
  refine (H2.out _).mono ?_
  rintro e Z ⟨rfl, bZ⟩
  have n1 := m1.over bZ
  have n2 := m2.over bZ
  have n3 := m3.over bZ
  have n4 := m4.trans (bZ.mono m4.size)
  clear m1 m2 m3 m4 bZ
  have u0 := (n3).cell 0
  have u1 := (n3).cell 1
  have u2 := (n3).cell 2
  have u3 := (n3).cell 3
  go_wp2_with fail
  refine (H3.out _).mono ?_
  rintro e V ⟨rfl, bV⟩
  have r4 := n4.trans (bV.mono n4.size)
  have KX : Blk (V.alloc (Obj.cells #[.int .i64 a, .int .i64 o, .int .u64 m, .int .u64 v] 24)) w.heap.size 24 [.int .i64 a, .int .i64 o, .int .u64 m, .int .u64 v] ∧ Blk (V.alloc (Obj.cells #[.int .i64 a, .int .i64 o, .int .u64 m, .int .u64 v] 24)) (w.heap.size + 1) 28 [.int .u32 n, .int .u32 ar, .int .u64 p, .int .u64 x0, .int .u64 x1, .int .u64 x2, .int .u64 x3, .int .u64 x4, .int .u64 x5] ∧ Blk (V.alloc (Obj.cells #[.int .i64 a, .int .i64 o, .int .u64 m, .int .u64 v] 24)) G1 24 [.int .i64 a, .int .i64 po, .int .u64 m, .int .u64 v] ∧ Blk (V.alloc (Obj.cells #[.int .i64 a, .int .i64 o, .int .u64 m, .int .u64 v] 24)) V.heap.size 24 [.int .i64 a, .int .i64 o, .int .u64 m, .int .u64 v] ∧ Below w.heap.size w (V.alloc (Obj.cells #[.int .i64 a, .int .i64 o, .int .u64 m, .int .u64 v] 24)) :=
    ⟨(n1.over bV).alloc _, (n2.over bV).alloc _, (n3.over bV).alloc _, blk_new V _ 24, r4.trans ((below_new V _).mono r4.size)⟩
  clear n1 n2 n3 n4 bV r4 u0 u1 u2 u3
  go_wp2_with fail
  generalize V.alloc (Obj.cells #[.int .i64 a, .int .i64 o, .int .u64 m, .int .u64 v] 24) = V1 at *
  generalize V.heap.size = G2 at *
  generalize hB1 : w.heap.size = B1 at *
  generalize hB2 : B1 + 1 = B2 at *
  refine wp_region_held_drew (S := (fun X => Blk X B1 24 [.int .i64 a, .int .i64 o, .int .u64 m, .int .u64 v] ∧ Blk X B2 28 [.int .u32 n, .int .u32 ar, .int .u64 p, .int .u64 x0, .int .u64 x1, .int .u64 x2, .int .u64 x3, .int .u64 x4, .int .u64 x5] ∧ Blk X G1 24 [.int .i64 a, .int .i64 po, .int .u64 m, .int .u64 v] ∧ Blk X G2 24 [.int .i64 a, .int .i64 o, .int .u64 m, .int .u64 v] ∧ Below B1 w X)) (by kernel_rfl) (⟨KX.1.drew, KX.2.1.drew, KX.2.2.1.drew, KX.2.2.2.1.drew, KX.2.2.2.2.drew⟩) (fun hHeld => ?_)
  simp only [List.size_toArray, List.length_cons, List.length_nil, Nat.reduceAdd]
  refine wpAnyH_take (i := 0) (v := ?_) rfl (by kernel_rfl) (by kernel_rfl) (by kernel_rfl) (fun _ _ _ h => h) (Or.inl ⟨by rfl, ?_⟩) hHeld ?_
  rotate_left
  · (intro w hSw; (try dsimp only at hSw); go_simp; try with_reducible rfl)
  try simp only [Act.put, List.setIfInBounds_toArray, List.set_cons_zero, List.set_cons_succ, List.getElem_toArray, List.getElem_cons_zero, List.getElem_cons_succ]
  refine wpAnyH_take (i := 1) (v := ?_) rfl (by kernel_rfl) (by kernel_rfl) (by kernel_rfl) (fun _ _ _ h => h) (Or.inl ⟨by rfl, ?_⟩) hHeld ?_
  rotate_left
  · (intro w hSw; (try dsimp only at hSw); go_simp; try with_reducible rfl)
  try simp only [Act.put, List.setIfInBounds_toArray, List.set_cons_zero, List.set_cons_succ, List.getElem_toArray, List.getElem_cons_zero, List.getElem_cons_succ]
  refine wpAnyH_take (i := 2) (v := ?_) rfl (by kernel_rfl) (by kernel_rfl) (by kernel_rfl) (fun _ _ _ h => h) (Or.inl ⟨by rfl, ?_⟩) hHeld ?_
  rotate_left
  · (intro w hSw; (try dsimp only at hSw); go_simp; try with_reducible rfl)
  try simp only [Act.put, List.setIfInBounds_toArray, List.set_cons_zero, List.set_cons_succ, List.getElem_toArray, List.getElem_cons_zero, List.getElem_cons_succ]
  refine wpAnyH_take (i := 3) (v := ?_) rfl (by kernel_rfl) (by kernel_rfl) (by kernel_rfl) (fun _ _ _ h => h) (Or.inl ⟨by rfl, ?_⟩) hHeld ?_
  rotate_left
  · (intro w hSw; (try dsimp only at hSw); go_simp; try with_reducible rfl)
  try simp only [Act.put, List.setIfInBounds_toArray, List.set_cons_zero, List.set_cons_succ, List.getElem_toArray, List.getElem_cons_zero, List.getElem_cons_succ]
  refine wpAnyH_take (i := 4) (v := ?_) rfl (by kernel_rfl) (by kernel_rfl) (by kernel_rfl) (fun _ _ _ h => h) (Or.inl ⟨by rfl, ?_⟩) hHeld ?_
  rotate_left
  · (intro w hSw; (try dsimp only at hSw); go_simp; try with_reducible rfl)
  try simp only [Act.put, List.setIfInBounds_toArray, List.set_cons_zero, List.set_cons_succ, List.getElem_toArray, List.getElem_cons_zero, List.getElem_cons_succ]
  refine wpAnyH_take (i := 5) (v := ?_) rfl (by kernel_rfl) (by kernel_rfl) (by kernel_rfl) (fun _ _ _ h => h) (Or.inl ⟨by rfl, ?_⟩) hHeld ?_
  rotate_left
  · (intro w hSw; (try dsimp only at hSw); go_simp; try with_reducible rfl)
  try simp only [Act.put, List.setIfInBounds_toArray, List.set_cons_zero, List.set_cons_succ, List.getElem_toArray, List.getElem_cons_zero, List.getElem_cons_succ]
  refine wpAnyH_take (i := 6) (v := ?_) rfl (by kernel_rfl) (by kernel_rfl) (by kernel_rfl) (fun _ _ _ h => h) (Or.inl ⟨by rfl, ?_⟩) hHeld ?_
  rotate_left
  · (intro w hSw; (try dsimp only at hSw); go_simp; try with_reducible rfl)
  try simp only [Act.put, List.setIfInBounds_toArray, List.set_cons_zero, List.set_cons_succ, List.getElem_toArray, List.getElem_cons_zero, List.getElem_cons_succ]
  refine wpAnyH_take (i := 7) (v := ?_) rfl (by kernel_rfl) (by kernel_rfl) (by kernel_rfl) (fun _ _ _ h => h) (Or.inl ⟨by rfl, ?_⟩) hHeld ?_
  rotate_left
  · (intro w hSw; (try dsimp only at hSw); go_simp; try with_reducible rfl)
  try simp only [Act.put, List.setIfInBounds_toArray, List.set_cons_zero, List.set_cons_succ, List.getElem_toArray, List.getElem_cons_zero, List.getElem_cons_succ]
  refine wpAnyH_take (i := 8) (v := ?_) rfl (by kernel_rfl) (by kernel_rfl) (by kernel_rfl) (fun _ _ _ h => h) (Or.inl ⟨by rfl, ?_⟩) hHeld ?_
  rotate_left
  · (intro w hSw; (try dsimp only at hSw); go_simp; try with_reducible rfl)
  try simp only [Act.put, List.setIfInBounds_toArray, List.set_cons_zero, List.set_cons_succ, List.getElem_toArray, List.getElem_cons_zero, List.getElem_cons_succ]
  refine wpAnyH_take (i := 9) (v := ?_) rfl (by kernel_rfl) (by kernel_rfl) (by kernel_rfl) (fun _ _ _ h => h) (Or.inl ⟨by rfl, ?_⟩) hHeld ?_
  rotate_left
  · (intro w hSw; (try dsimp only at hSw); go_simp; try with_reducible rfl)
  try simp only [Act.put, List.setIfInBounds_toArray, List.set_cons_zero, List.set_cons_succ, List.getElem_toArray, List.getElem_cons_zero, List.getElem_cons_succ]
  refine wpAnyH_take (i := 10) (v := ?_) rfl (by kernel_rfl) (by kernel_rfl) (by kernel_rfl) (fun _ _ _ h => h) (Or.inl ⟨by rfl, ?_⟩) hHeld ?_
  rotate_left
  · (intro w hSw; (try dsimp only at hSw); have s0 := (hSw.2.2.2.1).cell 0; have s1 := (hSw.2.2.2.1).cell 1; have s2 := (hSw.2.2.2.1).cell 2; have s3 := (hSw.2.2.2.1).cell 3; go_simp; try with_reducible rfl)
  try simp only [Act.put, List.setIfInBounds_toArray, List.set_cons_zero, List.set_cons_succ, List.getElem_toArray, List.getElem_cons_zero, List.getElem_cons_succ]
  refine wpAnyH_take (i := 11) (v := ?_) rfl (by kernel_rfl) (by kernel_rfl) (by kernel_rfl) (fun _ _ _ h => h) (Or.inl ⟨by rfl, ?_⟩) hHeld ?_
  rotate_left
  · (intro w hSw; (try dsimp only at hSw); have s0 := (hSw.1).cell 0; have s1 := (hSw.1).cell 1; have s2 := (hSw.1).cell 2; have s3 := (hSw.1).cell 3; go_simp; try with_reducible rfl)
  try simp only [Act.put, List.setIfInBounds_toArray, List.set_cons_zero, List.set_cons_succ, List.getElem_toArray, List.getElem_cons_zero, List.getElem_cons_succ]
  refine wpAnyH_take (i := 12) (v := ?_) rfl (by kernel_rfl) (by kernel_rfl) (by kernel_rfl) (fun _ _ _ h => h) (Or.inl ⟨by rfl, ?_⟩) hHeld ?_
  rotate_left
  · (intro w hSw; (try dsimp only at hSw); go_simp; try with_reducible rfl)
  try simp only [Act.put, List.setIfInBounds_toArray, List.set_cons_zero, List.set_cons_succ, List.getElem_toArray, List.getElem_cons_zero, List.getElem_cons_succ]
  refine wpAnyH_take (i := 13) (v := ?_) rfl (by kernel_rfl) (by kernel_rfl) (by kernel_rfl) (fun _ _ _ h => h) (Or.inl ⟨by rfl, ?_⟩) hHeld ?_
  rotate_left
  · (intro w hSw; (try dsimp only at hSw); go_simp; try with_reducible rfl)
  try simp only [Act.put, List.setIfInBounds_toArray, List.set_cons_zero, List.set_cons_succ, List.getElem_toArray, List.getElem_cons_zero, List.getElem_cons_succ]
  refine wpAnyH_take (i := 14) (v := ?_) rfl (by kernel_rfl) (by kernel_rfl) (by kernel_rfl) (fun _ _ _ h => h) (Or.inl ⟨by rfl, ?_⟩) hHeld ?_
  rotate_left
  · (intro w hSw; (try dsimp only at hSw); go_simp; try with_reducible rfl)
  try simp only [Act.put, List.setIfInBounds_toArray, List.set_cons_zero, List.set_cons_succ, List.getElem_toArray, List.getElem_cons_zero, List.getElem_cons_succ]
  refine wpAnyH_take (i := 15) (v := ?_) rfl (by kernel_rfl) (by kernel_rfl) (by kernel_rfl) (fun _ _ _ h => h) (Or.inl ⟨by rfl, ?_⟩) hHeld ?_
  rotate_left
  · (intro w hSw; (try dsimp only at hSw); have s0 := (hSw.1).cell 0; have s1 := (hSw.1).cell 1; have s2 := (hSw.1).cell 2; have s3 := (hSw.1).cell 3; go_simp; try with_reducible rfl)
  try simp only [Act.put, List.setIfInBounds_toArray, List.set_cons_zero, List.set_cons_succ, List.getElem_toArray, List.getElem_cons_zero, List.getElem_cons_succ]
  refine wpAnyH_take (i := 16) (v := ?_) rfl (by kernel_rfl) (by kernel_rfl) (by kernel_rfl) (fun _ _ _ h => h) (Or.inl ⟨by rfl, ?_⟩) hHeld ?_
  rotate_left
  · (intro w hSw; (try dsimp only at hSw); have s0 := (hSw.2.1).cell 0; have s1 := (hSw.2.1).cell 1; have s2 := (hSw.2.1).cell 2; have s3 := (hSw.2.1).cell 3; have s4 := (hSw.2.1).cell 4; have s5 := (hSw.2.1).cell 5; have s6 := (hSw.2.1).cell 6; have s7 := (hSw.2.1).cell 7; have s8 := (hSw.2.1).cell 8; go_simp; try with_reducible rfl)
  try simp only [Act.put, List.setIfInBounds_toArray, List.set_cons_zero, List.set_cons_succ, List.getElem_toArray, List.getElem_cons_zero, List.getElem_cons_succ]
  refine wpAnyH_take (i := 18) (v := ?_) rfl (by kernel_rfl) (by kernel_rfl) (by kernel_rfl) (fun _ _ _ h => h) (Or.inl ⟨by rfl, ?_⟩) hHeld ?_
  rotate_left
  · (intro w hSw; (try dsimp only at hSw); have s0 := (hSw.2.2.1).cell 0; have s1 := (hSw.2.2.1).cell 1; have s2 := (hSw.2.2.1).cell 2; have s3 := (hSw.2.2.1).cell 3; go_simp; try with_reducible rfl)
  try simp only [Act.put, List.setIfInBounds_toArray, List.set_cons_zero, List.set_cons_succ, List.getElem_toArray, List.getElem_cons_zero, List.getElem_cons_succ]
  refine wpAnyH_take (i := 19) (v := ?_) rfl (by kernel_rfl) (by kernel_rfl) (by kernel_rfl) (fun _ _ _ h => h) (Or.inl ⟨by rfl, ?_⟩) hHeld ?_
  rotate_left
  · (intro w hSw; (try dsimp only at hSw); have s0 := (hSw.2.1).cell 0; have s1 := (hSw.2.1).cell 1; have s2 := (hSw.2.1).cell 2; have s3 := (hSw.2.1).cell 3; have s4 := (hSw.2.1).cell 4; have s5 := (hSw.2.1).cell 5; have s6 := (hSw.2.1).cell 6; have s7 := (hSw.2.1).cell 7; have s8 := (hSw.2.1).cell 8; go_simp; try with_reducible rfl)
  try simp only [Act.put, List.setIfInBounds_toArray, List.set_cons_zero, List.set_cons_succ, List.getElem_toArray, List.getElem_cons_zero, List.getElem_cons_succ]
  refine wpAnyH_ready (rs := [17]) (by kernel_rfl) (by simp) ?_
  refine AllReadyH.cons rfl (fun K hK => ?_) AllReadyH.nil
  go_simp
  refine (H4.out _).mono ?_
  rintro e w1 ⟨rfl, b1⟩
  go_wp2_with fail
  refine hK.out _ _ (⟨hHeld.1.over b1, hHeld.2.1.over b1, hHeld.2.2.1.over b1, hHeld.2.2.2.1.over b1, hHeld.2.2.2.2.trans (b1.mono (hB1 ▸ hHeld.2.2.2.2.size))⟩) (fun hHeld => ?_)
  clear hK K
  try simp only [Act.put, List.setIfInBounds_toArray, List.set_cons_zero, List.set_cons_succ, List.getElem_toArray, List.getElem_cons_zero, List.getElem_cons_succ]
  refine wpAnyH_ready (rs := [20]) (by kernel_rfl) (by simp) ?_
  refine AllReadyH.cons rfl (fun K hK => ?_) AllReadyH.nil
  go_simp
  refine (H5.out _).mono ?_
  rintro e w2 ⟨rfl, b2⟩
  go_wp2_with fail
  refine hK.out _ _ (⟨hHeld.1.over b2, hHeld.2.1.over b2, hHeld.2.2.1.over b2, hHeld.2.2.2.1.over b2, hHeld.2.2.2.2.trans (b2.mono (hB1 ▸ hHeld.2.2.2.2.size))⟩) (fun hHeld => ?_)
  clear hK K
  try simp only [Act.put, List.setIfInBounds_toArray, List.set_cons_zero, List.set_cons_succ, List.getElem_toArray, List.getElem_cons_zero, List.getElem_cons_succ]
  refine wpAnyH_take (i := 21) (v := ?_) rfl (by kernel_rfl) (by kernel_rfl) (by kernel_rfl) (fun _ _ _ h => h) (Or.inl ⟨by rfl, ?_⟩) hHeld ?_
  rotate_left
  · (intro w hSw; (try dsimp only at hSw); go_simp; try with_reducible rfl)
  try simp only [Act.put, List.setIfInBounds_toArray, List.set_cons_zero, List.set_cons_succ, List.getElem_toArray, List.getElem_cons_zero, List.getElem_cons_succ]
  refine wpAnyH_take (i := 22) (v := ?_) rfl (by kernel_rfl) (by kernel_rfl) (by kernel_rfl) (fun _ _ _ h => h) (Or.inl ⟨by rfl, ?_⟩) hHeld ?_
  rotate_left
  · (intro w hSw; (try dsimp only at hSw); go_simp; try with_reducible rfl)
  try simp only [Act.put, List.setIfInBounds_toArray, List.set_cons_zero, List.set_cons_succ, List.getElem_toArray, List.getElem_cons_zero, List.getElem_cons_succ]
  refine wpAnyH_take (i := 23) (v := ?_) rfl (by kernel_rfl) (by kernel_rfl) (by kernel_rfl) (fun _ _ _ h => h) (Or.inl ⟨by rfl, ?_⟩) hHeld ?_
  rotate_left
  · (intro w hSw; (try dsimp only at hSw); go_simp; try with_reducible rfl)
  try simp only [Act.put, List.setIfInBounds_toArray, List.set_cons_zero, List.set_cons_succ, List.getElem_toArray, List.getElem_cons_zero, List.getElem_cons_succ]
  refine wpAnyH_done (by kernel_rfl) ?_ _
  go_wp2_with fail
  go_ret
  exact ⟨by first | rfl | simp | (cases q <;> rfl), by rw [hB1]; exact hHeld.2.2.2.2⟩

theorem condNot_walk (a o m v : Int) (d : Da) (w : World) (hd : d.ok) :
    Calls Try.prog 7 #[(.agg #[.int .i64 a, .int .i64 o, .int .u64 m, .int .u64 v]), d.val] w fun e w' => e = .returned (.bool true) ∧ Below w.heap.size w w' := by
  by_cases h : rightB a o = true
  · exact condNot_right a o m v d w hd h
  · exact condNot_wrong a o m v d w hd (by simpa using h)

end Go.Proofs.Ytocebgkiaclekaa
