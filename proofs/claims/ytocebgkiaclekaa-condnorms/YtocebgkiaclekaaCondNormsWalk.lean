/-
  The law CondNorms, walked: true for every condition.
-/
import Derived.Test.YtocebgkiaclekaaAwake
import Derived.Test.YtocebgkiaclekaaRefNormAll
import Derived.Test.YtocebgkiaclekaaOpen
import Derived.Deep.RegionHeld3
namespace Go.Proofs.Ytocebgkiaclekaa
open Go.RowKit

theorem notV_shape (a o m v : Int) : ∃ xa xo xm xv e : Int, notV a o m v = .tuple #[.agg #[.int .i64 xa, .int .i64 xo, .int .u64 xm, .int .u64 xv], .int .i64 e] := by
  unfold notV
  split
  · exact ⟨_, _, _, _, _, rfl⟩
  · exact ⟨_, _, _, _, _, rfl⟩

set_option linter.unusedSimpArgs false in
set_option maxHeartbeats 2000000 in
theorem condNorms_walk (a o m v : Int) (w : World) (hm : U64 m) (hv : U64 v) :
    Calls Try.prog 4 #[(.agg #[.int .i64 a, .int .i64 o, .int .u64 m, .int .u64 v])] w fun e w' => e = .returned (.bool true) ∧ Below w.heap.size w w' := by
  have HW : Hid (∀ W : World, Calls Try.prog 9 #[] W fun e w' => e = .returned (.bool true) ∧ Below W.heap.size W w') := awake_any
  obtain ⟨xa, xo, xm, xv, er, hx⟩ := notV_shape a o m v
  have H1 : Hid (∀ W : World, Calls Try.prog 14 #[(.agg #[.int .i64 a, .int .i64 o, .int .u64 m, .int .u64 v])] W fun e w' => e = .returned (.tuple #[.agg #[.int .i64 xa, .int .i64 xo, .int .u64 xm, .int .u64 xv], .int .i64 er]) ∧ Below W.heap.size W w') := fun W => hx ▸ not_any a o m v W
  have H2 : Hid (∀ W : World, Calls Try.prog 15 #[(.agg #[.int .i64 a, .int .i64 o, .int .u64 m, .int .u64 v])] W fun e w' => e = .returned (.tuple #[.agg #[.int .i64 xa, .int .i64 xo, .int .u64 xm, .int .u64 xv], .int .i64 er]) ∧ Below W.heap.size W w') := fun W => hx ▸ refNot_any a o m v W
  have H3 : Hid (∀ W : World, Calls Try.prog 16 #[(.agg #[.int .i64 a, .int .i64 o, .int .u64 m, .int .u64 v])] W fun e w' => e = .returned (normN a o m v).val ∧ Below W.heap.size W w') := fun W => norm_any a o m v W
  have H4 : Hid (∀ W : World, Calls Try.prog 17 #[(.agg #[.int .i64 a, .int .i64 o, .int .u64 m, .int .u64 v])] W fun e w' => e = .returned (normN a o m v).val ∧ Below W.heap.size W w') := fun W => refNorm_any a o m v W hm hv
  clear hx hm hv
  generalize normN a o m v = n at *
  have hq : ∀ W : World, (Op.equalIn 10000 36 n.val n.val).run Try.prog W = .ok true W := fun W => (equalIn_no n n W).trans (by rw [No.same_self])
  obtain ⟨b0, b1, b2, no, nm, nv⟩ := n
  unfold No.val No.cells at *
  dsimp only at *
  have hq2 : ∀ W : World, (Op.equalIn 10000 24 (.agg #[.int .i64 xa, .int .i64 xo, .int .u64 xm, .int .u64 xv]) (.agg #[.int .i64 xa, .int .i64 xo, .int .u64 xm, .int .u64 xv])).run Try.prog W = .ok true W := fun W => (equalIn_co xa xo xm xv xa xo xm xv W).trans (by rw [sameC_self])
  have HK : Blk (w.alloc (Obj.cells #[.int .i64 a, .int .i64 o, .int .u64 m, .int .u64 v] 24)) w.heap.size 24 [.int .i64 a, .int .i64 o, .int .u64 m, .int .u64 v] := blk_new w _ 24
  have HB := below_new w (Obj.cells #[.int .i64 a, .int .i64 o, .int .u64 m, .int .u64 v] 24)
  go_enter Try.func4, Try.ntmps4
  go_wp2_with fail
  generalize w.alloc (Obj.cells #[.int .i64 a, .int .i64 o, .int .u64 m, .int .u64 v] 24) = W0 at *
  refine (HW.out _).mono ?_
  rintro e X ⟨rfl, bX⟩
  have k1 := HK.over bX
  have k2 := HB.trans (bX.mono HB.size)
  have q0 := k1.cell 0
  have q1 := k1.cell 1
  have q2 := k1.cell 2
  have q3 := k1.cell 3
  go_wp2_with fail
  refine (H1.out _).mono ?_
  rintro e Y ⟨rfl, bY⟩
  have l1 := (k1.over bY).alloc (Obj.cells #[.int .i64 xa, .int .i64 xo, .int .u64 xm, .int .u64 xv] 24)
  have l2 := (k2.trans (bY.mono k2.size)).trans ((below_new Y (Obj.cells #[.int .i64 xa, .int .i64 xo, .int .u64 xm, .int .u64 xv] 24)).mono (k2.trans (bY.mono k2.size)).size)
  have l3 := blk_new Y #[.int .i64 xa, .int .i64 xo, .int .u64 xm, .int .u64 xv] 24
  have p0 := l1.cell 0
  have p1 := l1.cell 1
  have p2 := l1.cell 2
  have p3 := l1.cell 3
  go_wp2_with fail
  generalize Y.alloc (Obj.cells #[.int .i64 xa, .int .i64 xo, .int .u64 xm, .int .u64 xv] 24) = Y1 at *
  refine (H2.out _).mono ?_
  rintro e Z ⟨rfl, bZ⟩
  have m0 := (l2.trans (bZ.mono l2.size))
  have KX : Blk (Z.alloc (Obj.cells #[.int .i64 xa, .int .i64 xo, .int .u64 xm, .int .u64 xv] 24)) w.heap.size 24 [.int .i64 a, .int .i64 o, .int .u64 m, .int .u64 v] ∧ Blk (Z.alloc (Obj.cells #[.int .i64 xa, .int .i64 xo, .int .u64 xm, .int .u64 xv] 24)) Y.heap.size 24 [.int .i64 xa, .int .i64 xo, .int .u64 xm, .int .u64 xv] ∧ Blk (Z.alloc (Obj.cells #[.int .i64 xa, .int .i64 xo, .int .u64 xm, .int .u64 xv] 24)) Z.heap.size 24 [.int .i64 xa, .int .i64 xo, .int .u64 xm, .int .u64 xv] ∧ Below w.heap.size w (Z.alloc (Obj.cells #[.int .i64 xa, .int .i64 xo, .int .u64 xm, .int .u64 xv] 24)) :=
    ⟨(l1.over bZ).alloc _, (l3.over bZ).alloc _, blk_new Z _ 24, m0.trans ((below_new Z _).mono m0.size)⟩
  clear HK HB bX k1 k2 q0 q1 q2 q3 bY l1 l2 l3 p0 p1 p2 p3 bZ m0
  go_wp2_with fail
  generalize Z.alloc (Obj.cells #[.int .i64 xa, .int .i64 xo, .int .u64 xm, .int .u64 xv] 24) = Z1 at *
  generalize Z.heap.size = G2 at *
  generalize Y.heap.size = G1 at *
  generalize hB1 : w.heap.size = B1 at *
  refine wp_region_held_drew (S := (fun X => Blk X B1 24 [.int .i64 a, .int .i64 o, .int .u64 m, .int .u64 v] ∧ Blk X G1 24 [.int .i64 xa, .int .i64 xo, .int .u64 xm, .int .u64 xv] ∧ Blk X G2 24 [.int .i64 xa, .int .i64 xo, .int .u64 xm, .int .u64 xv] ∧ Below B1 w X)) (by kernel_rfl) (⟨KX.1.drew, KX.2.1.drew, KX.2.2.1.drew, KX.2.2.2.drew⟩) (fun hHeld => ?_)
  simp only [List.size_toArray, List.length_cons, List.length_nil, Nat.reduceAdd]
  refine wpAnyH_take (i := 0) (v := ?_) rfl (by kernel_rfl) (by kernel_rfl) (by kernel_rfl) (fun _ _ _ h => h) (Or.inl ⟨by rfl, ?_⟩) hHeld ?_
  rotate_left
  · (intro w hSw; (try dsimp only at hSw); go_simp; try with_reducible rfl)
  try simp only [Act.put, List.setIfInBounds_toArray, List.set_cons_zero, List.set_cons_succ, List.getElem_toArray, List.getElem_cons_zero, List.getElem_cons_succ]
  refine wpAnyH_take (i := 1) (v := ?_) rfl (by kernel_rfl) (by kernel_rfl) (by kernel_rfl) (fun _ _ _ h => h) (Or.inl ⟨by rfl, ?_⟩) hHeld ?_
  rotate_left
  · (intro w hSw; (try dsimp only at hSw); go_simp; try with_reducible rfl)
  try simp only [Act.put, List.setIfInBounds_toArray, List.set_cons_zero, List.set_cons_succ, List.getElem_toArray, List.getElem_cons_zero, List.getElem_cons_succ]
  refine wpAnyH_take (i := 2) (v := ?_) rfl (by kernel_rfl) (by kernel_rfl) (by kernel_rfl) (fun _ _ _ h => h) (Or.inl ⟨by rfl, ?_⟩) hHeld ?_
  rotate_left
  · (intro w hSw; (try dsimp only at hSw); have s0 := (hSw.1).cell 0; have s1 := (hSw.1).cell 1; have s2 := (hSw.1).cell 2; have s3 := (hSw.1).cell 3; go_simp; try with_reducible rfl)
  try simp only [Act.put, List.setIfInBounds_toArray, List.set_cons_zero, List.set_cons_succ, List.getElem_toArray, List.getElem_cons_zero, List.getElem_cons_succ]
  refine wpAnyH_take (i := 4) (v := ?_) rfl (by kernel_rfl) (by kernel_rfl) (by kernel_rfl) (fun _ _ _ h => h) (Or.inl ⟨by rfl, ?_⟩) hHeld ?_
  rotate_left
  · (intro w hSw; (try dsimp only at hSw); have s0 := (hSw.1).cell 0; have s1 := (hSw.1).cell 1; have s2 := (hSw.1).cell 2; have s3 := (hSw.1).cell 3; go_simp; try with_reducible rfl)
  try simp only [Act.put, List.setIfInBounds_toArray, List.set_cons_zero, List.set_cons_succ, List.getElem_toArray, List.getElem_cons_zero, List.getElem_cons_succ]
  refine wpAnyH_ready (rs := [3]) (by kernel_rfl) (by simp) ?_
  refine AllReadyH.cons rfl (fun K hK => ?_) AllReadyH.nil
  go_simp
  refine (H3.out _).mono ?_
  rintro e w1 ⟨rfl, d1⟩
  go_wp2_with fail
  refine hK.out _ _ (⟨hHeld.1.over d1, hHeld.2.1.over d1, hHeld.2.2.1.over d1, hHeld.2.2.2.trans (d1.mono (hB1 ▸ hHeld.2.2.2.size))⟩) (fun hHeld => ?_)
  clear hK K
  try simp only [Act.put, List.setIfInBounds_toArray, List.set_cons_zero, List.set_cons_succ, List.getElem_toArray, List.getElem_cons_zero, List.getElem_cons_succ]
  refine wpAnyH_ready (rs := [5]) (by kernel_rfl) (by simp) ?_
  refine AllReadyH.cons rfl (fun K hK => ?_) AllReadyH.nil
  go_simp
  refine (H4.out _).mono ?_
  rintro e w2 ⟨rfl, d2⟩
  go_wp2_with fail
  refine hK.out _ _ (⟨hHeld.1.over d2, hHeld.2.1.over d2, hHeld.2.2.1.over d2, hHeld.2.2.2.trans (d2.mono (hB1 ▸ hHeld.2.2.2.size))⟩) (fun hHeld => ?_)
  clear hK K
  try simp only [Act.put, List.setIfInBounds_toArray, List.set_cons_zero, List.set_cons_succ, List.getElem_toArray, List.getElem_cons_zero, List.getElem_cons_succ]
  refine wpAnyH_take (i := 6) (v := ?_) rfl (by kernel_rfl) (by kernel_rfl) (by kernel_rfl) (fun _ _ _ h => h) (Or.inl ⟨by rfl, ?_⟩) hHeld ?_
  rotate_left
  · (intro w hSw; (try dsimp only at hSw); go_simp; try with_reducible rfl)
  try simp only [Act.put, List.setIfInBounds_toArray, List.set_cons_zero, List.set_cons_succ, List.getElem_toArray, List.getElem_cons_zero, List.getElem_cons_succ]
  refine wpAnyH_take (i := 7) (v := ?_) rfl (by kernel_rfl) (by kernel_rfl) (by kernel_rfl) (fun _ _ _ h => h) (Or.inl ⟨by rfl, ?_⟩) hHeld ?_
  rotate_left
  · (intro w hSw; (try dsimp only at hSw); go_simp; try with_reducible rfl)
  try simp only [Act.put, List.setIfInBounds_toArray, List.set_cons_zero, List.set_cons_succ, List.getElem_toArray, List.getElem_cons_zero, List.getElem_cons_succ]
  refine wpAnyH_take (i := 8) (v := ?_) rfl (by kernel_rfl) (by kernel_rfl) (by kernel_rfl) (fun _ _ _ h => h) (Or.inl ⟨by rfl, ?_⟩) hHeld ?_
  rotate_left
  · (intro w hSw; (try dsimp only at hSw); go_simp; try with_reducible rfl)
  try simp only [Act.put, List.setIfInBounds_toArray, List.set_cons_zero, List.set_cons_succ, List.getElem_toArray, List.getElem_cons_zero, List.getElem_cons_succ]
  refine wpAnyH_take (i := 9) (v := ?_) rfl (by kernel_rfl) (by kernel_rfl) (by kernel_rfl) (fun _ _ _ h => h) (Or.inl ⟨by rfl, ?_⟩) hHeld ?_
  rotate_left
  · (intro w hSw; (try dsimp only at hSw); have s0 := (hSw.2.1).cell 0; have s1 := (hSw.2.1).cell 1; have s2 := (hSw.2.1).cell 2; have s3 := (hSw.2.1).cell 3; go_simp; try with_reducible rfl)
  try simp only [Act.put, List.setIfInBounds_toArray, List.set_cons_zero, List.set_cons_succ, List.getElem_toArray, List.getElem_cons_zero, List.getElem_cons_succ]
  refine wpAnyH_take (i := 10) (v := ?_) rfl (by kernel_rfl) (by kernel_rfl) (by kernel_rfl) (fun _ _ _ h => h) (Or.inl ⟨by rfl, ?_⟩) hHeld ?_
  rotate_left
  · (intro w hSw; (try dsimp only at hSw); have s0 := (hSw.2.2.1).cell 0; have s1 := (hSw.2.2.1).cell 1; have s2 := (hSw.2.2.1).cell 2; have s3 := (hSw.2.2.1).cell 3; go_simp; try with_reducible rfl)
  try simp only [Act.put, List.setIfInBounds_toArray, List.set_cons_zero, List.set_cons_succ, List.getElem_toArray, List.getElem_cons_zero, List.getElem_cons_succ]
  refine wpAnyH_take (i := 11) (v := ?_) rfl (by kernel_rfl) (by kernel_rfl) (by kernel_rfl) (fun _ _ _ h => h) (Or.inl ⟨by rfl, ?_⟩) hHeld ?_
  rotate_left
  · (intro w hSw; (try dsimp only at hSw); go_simp; try with_reducible rfl)
  try simp only [Act.put, List.setIfInBounds_toArray, List.set_cons_zero, List.set_cons_succ, List.getElem_toArray, List.getElem_cons_zero, List.getElem_cons_succ]
  refine wpAnyH_take (i := 12) (v := ?_) rfl (by kernel_rfl) (by kernel_rfl) (by kernel_rfl) (fun _ _ _ h => h) (Or.inl ⟨by rfl, ?_⟩) hHeld ?_
  rotate_left
  · (intro w hSw; (try dsimp only at hSw); go_simp; try with_reducible rfl)
  try simp only [Act.put, List.setIfInBounds_toArray, List.set_cons_zero, List.set_cons_succ, List.getElem_toArray, List.getElem_cons_zero, List.getElem_cons_succ]
  refine wpAnyH_take (i := 13) (v := ?_) rfl (by kernel_rfl) (by kernel_rfl) (by kernel_rfl) (fun _ _ _ h => h) (Or.inl ⟨by rfl, ?_⟩) hHeld ?_
  rotate_left
  · (intro w hSw; (try dsimp only at hSw); go_simp; try with_reducible rfl)
  try simp only [Act.put, List.setIfInBounds_toArray, List.set_cons_zero, List.set_cons_succ, List.getElem_toArray, List.getElem_cons_zero, List.getElem_cons_succ]
  refine wpAnyH_take (i := 14) (v := ?_) rfl (by kernel_rfl) (by kernel_rfl) (by kernel_rfl) (fun _ _ _ h => h) (Or.inl ⟨by rfl, ?_⟩) hHeld ?_
  rotate_left
  · (intro w hSw; (try dsimp only at hSw); go_simp; try with_reducible rfl)
  try simp only [Act.put, List.setIfInBounds_toArray, List.set_cons_zero, List.set_cons_succ, List.getElem_toArray, List.getElem_cons_zero, List.getElem_cons_succ]
  refine wpAnyH_take (i := 15) (v := ?_) rfl (by kernel_rfl) (by kernel_rfl) (by kernel_rfl) (fun _ _ _ h => h) (Or.inl ⟨by rfl, ?_⟩) hHeld ?_
  rotate_left
  · (intro w hSw; (try dsimp only at hSw); go_simp; try with_reducible rfl)
  try simp only [Act.put, List.setIfInBounds_toArray, List.set_cons_zero, List.set_cons_succ, List.getElem_toArray, List.getElem_cons_zero, List.getElem_cons_succ]
  refine wpAnyH_take (i := 16) (v := ?_) rfl (by kernel_rfl) (by kernel_rfl) (by kernel_rfl) (fun _ _ _ h => h) (Or.inl ⟨by rfl, ?_⟩) hHeld ?_
  rotate_left
  · (intro w hSw; (try dsimp only at hSw); go_simp; try with_reducible rfl)
  try simp only [Act.put, List.setIfInBounds_toArray, List.set_cons_zero, List.set_cons_succ, List.getElem_toArray, List.getElem_cons_zero, List.getElem_cons_succ]
  refine wpAnyH_take (i := 17) (v := ?_) rfl (by kernel_rfl) (by kernel_rfl) (by kernel_rfl) (fun _ _ _ h => h) (Or.inl ⟨by rfl, ?_⟩) hHeld ?_
  rotate_left
  · (intro w hSw; (try dsimp only at hSw); go_simp; try with_reducible rfl)
  try simp only [Act.put, List.setIfInBounds_toArray, List.set_cons_zero, List.set_cons_succ, List.getElem_toArray, List.getElem_cons_zero, List.getElem_cons_succ]
  refine wpAnyH_take (i := 18) (v := ?_) rfl (by kernel_rfl) (by kernel_rfl) (by kernel_rfl) (fun _ _ _ h => h) (Or.inl ⟨by rfl, ?_⟩) hHeld ?_
  rotate_left
  · (intro w hSw; (try dsimp only at hSw); go_simp; try with_reducible rfl)
  try simp only [Act.put, List.setIfInBounds_toArray, List.set_cons_zero, List.set_cons_succ, List.getElem_toArray, List.getElem_cons_zero, List.getElem_cons_succ]
  refine wpAnyH_done (by kernel_rfl) ?_ _
  go_wp2_with fail
  go_ret
  exact ⟨by first | rfl | simp, by rw [hB1]; exact hHeld.2.2.2⟩

end Go.Proofs.Ytocebgkiaclekaa
