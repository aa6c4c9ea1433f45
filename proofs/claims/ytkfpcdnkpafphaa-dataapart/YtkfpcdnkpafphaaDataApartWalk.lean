/-
  The law DataApart, walked: true for every two calls.
-/
import Derived.Test.YtkfpcdnkpafphaaAwake
import Derived.Test.YtkfpcdnkpafphaaStep
namespace Go.Proofs.Ytkfpcdnkpafphaa
open Go.RowKit

set_option linter.unusedSimpArgs false in
set_option maxHeartbeats 2000000 in
theorem dataApart_walk (x y : Da) (w : World) (hx : x.ok) (hy : y.ok) :
    Calls Try.prog 8 #[x.val, y.val] w fun e w' => e = .returned (.bool true) ∧ Below w.heap.size w w' := by
  have BX : Hid (Byt x.enc) := enc_byt x hx
  have BY : Hid (Byt y.enc) := enc_byt y hy
  have HX : Hid (∀ W : World, Calls Try.prog 12 #[x.val] W fun e w' => Below W.heap.size W w' ∧ ∃ v', e = .returned v' ∧ w'.ownsRow W.heap.size 5 1 v' 64 (cellsB x.enc)) := fun W => bytes_any x W hx
  have HY : Hid (∀ W : World, Calls Try.prog 12 #[y.val] W fun e w' => Below W.heap.size W w' ∧ ∃ v', e = .returned v' ∧ w'.ownsRow W.heap.size 5 1 v' 64 (cellsB y.enc)) := fun W => bytes_any y W hy
  have hq1 : ∀ W : World, (binOp .eql 26 x.val y.val).run Try.prog W = .ok (.bool (x.same y)) W := fun W => eql_da x y W hx hy
  have hq2 : ∀ W : World, (Op.equalIn 10000 26 x.val y.val).run Try.prog W = .ok (x.same y) W := fun W => equalIn_da x y W hx hy
  have hq3 := str_same x y hx hy
  have hl := hx.2.2.2.1
  have hl2 := hy.2.2.2.1
  generalize x.same y = q at *
  generalize x.enc = ex at *
  generalize y.enc = ey at *
  clear hx hy
  obtain ⟨n, a, p, g⟩ := x
  obtain ⟨n2, c2, p2, g2⟩ := y
  obtain ⟨x0, x1, x2, x3, x4, x5, rfl⟩ := six hl
  obtain ⟨y0, y1, y2, y3, y4, y5, rfl⟩ := six hl2
  clear hl hl2
  unfold Da.val Da.cells at *
  simp only [List.map_cons, List.map_nil] at *
  have f1 := (blk_new w #[.int .u32 n, .int .u32 a, .int .u64 p, .int .u64 x0, .int .u64 x1, .int .u64 x2, .int .u64 x3, .int .u64 x4, .int .u64 x5] 26).alloc (Obj.cells #[.int .u32 n2, .int .u32 c2, .int .u64 p2, .int .u64 y0, .int .u64 y1, .int .u64 y2, .int .u64 y3, .int .u64 y4, .int .u64 y5] 26)
  have f2 := blk_new' w (Obj.cells #[.int .u32 n, .int .u32 a, .int .u64 p, .int .u64 x0, .int .u64 x1, .int .u64 x2, .int .u64 x3, .int .u64 x4, .int .u64 x5] 26) #[.int .u32 n2, .int .u32 c2, .int .u64 p2, .int .u64 y0, .int .u64 y1, .int .u64 y2, .int .u64 y3, .int .u64 y4, .int .u64 y5] 26
  have b2 : Below w.heap.size w ((w.alloc (Obj.cells #[.int .u32 n, .int .u32 a, .int .u64 p, .int .u64 x0, .int .u64 x1, .int .u64 x2, .int .u64 x3, .int .u64 x4, .int .u64 x5] 26)).alloc (Obj.cells #[.int .u32 n2, .int .u32 c2, .int .u64 p2, .int .u64 y0, .int .u64 y1, .int .u64 y2, .int .u64 y3, .int .u64 y4, .int .u64 y5] 26)) := ((Below.refl _ _).alloc (Nat.le_refl _) _).alloc (by rw [size_alloc']; omega) _
  go_enter Try.func8, Try.ntmps8
  go_wp2_with fail
  generalize (w.alloc (Obj.cells #[.int .u32 n, .int .u32 a, .int .u64 p, .int .u64 x0, .int .u64 x1, .int .u64 x2, .int .u64 x3, .int .u64 x4, .int .u64 x5] 26)).alloc (Obj.cells #[.int .u32 n2, .int .u32 c2, .int .u64 p2, .int .u64 y0, .int .u64 y1, .int .u64 y2, .int .u64 y3, .int .u64 y4, .int .u64 y5] 26) = W0 at *
  refine (awake_any _).mono ?_
  rintro e X ⟨rfl, hbX⟩
  have g1 : Hid (Blk X w.heap.size 26 [.int .u32 n, .int .u32 a, .int .u64 p, .int .u64 x0, .int .u64 x1, .int .u64 x2, .int .u64 x3, .int .u64 x4, .int .u64 x5]) := f1.over hbX
  have g2 : Hid (Blk X (w.heap.size + 1) 26 [.int .u32 n2, .int .u32 c2, .int .u64 p2, .int .u64 y0, .int .u64 y1, .int .u64 y2, .int .u64 y3, .int .u64 y4, .int .u64 y5]) := f2.over hbX
  have bX := b2.trans (hbX.mono b2.size)
  clear f1 f2 hbX b2
  generalize hB1 : w.heap.size = B1 at *
  generalize hB2 : B1 + 1 = B2 at *
  go_wp2_with fail
  refine wp_region_held_drew (S := (fun w' => Blk w' B1 26 [.int .u32 n, .int .u32 a, .int .u64 p, .int .u64 x0, .int .u64 x1, .int .u64 x2, .int .u64 x3, .int .u64 x4, .int .u64 x5] ∧ Blk w' B2 26 [.int .u32 n2, .int .u32 c2, .int .u64 p2, .int .u64 y0, .int .u64 y1, .int .u64 y2, .int .u64 y3, .int .u64 y4, .int .u64 y5])) (by kernel_rfl) (⟨g1.out.drew, g2.out.drew⟩) (fun hHeld => ?_)
  simp only [List.size_toArray, List.length_cons, List.length_nil, Nat.reduceAdd]
  refine wpAnyH_take (i := 0) (v := ?_) rfl (by kernel_rfl) (by kernel_rfl) (by kernel_rfl) (fun _ _ _ h => h) (Or.inl ⟨by rfl, ?_⟩) hHeld ?_
  rotate_left
  · (intro w hSw; (try dsimp only at hSw); go_simp; try with_reducible rfl)
  try simp only [Act.put, List.setIfInBounds_toArray, List.set_cons_zero, List.set_cons_succ, List.getElem_toArray, List.getElem_cons_zero, List.getElem_cons_succ]
  refine wpAnyH_take (i := 1) (v := ?_) rfl (by kernel_rfl) (by kernel_rfl) (by kernel_rfl) (fun _ _ _ h => h) (Or.inl ⟨by rfl, ?_⟩) hHeld ?_
  rotate_left
  · (intro w hSw; (try dsimp only at hSw); go_simp; try with_reducible rfl)
  try simp only [Act.put, List.setIfInBounds_toArray, List.set_cons_zero, List.set_cons_succ, List.getElem_toArray, List.getElem_cons_zero, List.getElem_cons_succ]
  refine wpAnyH_take (i := 2) (v := ?_) rfl (by kernel_rfl) (by kernel_rfl) (by kernel_rfl) (fun _ _ _ h => h) (Or.inl ⟨by rfl, ?_⟩) hHeld ?_
  rotate_left
  · (intro w hSw; (try dsimp only at hSw); have s0 := (hSw.1).cell 0; have s1 := (hSw.1).cell 1; have s2 := (hSw.1).cell 2; have s3 := (hSw.1).cell 3; have s4 := (hSw.1).cell 4; have s5 := (hSw.1).cell 5; have s6 := (hSw.1).cell 6; have s7 := (hSw.1).cell 7; have s8 := (hSw.1).cell 8; go_simp; try with_reducible rfl)
  try simp only [Act.put, List.setIfInBounds_toArray, List.set_cons_zero, List.set_cons_succ, List.getElem_toArray, List.getElem_cons_zero, List.getElem_cons_succ]
  refine wpAnyH_take (i := 5) (v := ?_) rfl (by kernel_rfl) (by kernel_rfl) (by kernel_rfl) (fun _ _ _ h => h) (Or.inl ⟨by rfl, ?_⟩) hHeld ?_
  rotate_left
  · (intro w hSw; (try dsimp only at hSw); have s0 := (hSw.2).cell 0; have s1 := (hSw.2).cell 1; have s2 := (hSw.2).cell 2; have s3 := (hSw.2).cell 3; have s4 := (hSw.2).cell 4; have s5 := (hSw.2).cell 5; have s6 := (hSw.2).cell 6; have s7 := (hSw.2).cell 7; have s8 := (hSw.2).cell 8; go_simp; try with_reducible rfl)
  try simp only [Act.put, List.setIfInBounds_toArray, List.set_cons_zero, List.set_cons_succ, List.getElem_toArray, List.getElem_cons_zero, List.getElem_cons_succ]
  refine wpAnyH_take (i := 9) (v := ?_) rfl (by kernel_rfl) (by kernel_rfl) (by kernel_rfl) (fun _ _ _ h => h) (Or.inl ⟨by rfl, ?_⟩) hHeld ?_
  rotate_left
  · (intro w hSw; (try dsimp only at hSw); have s0 := (hSw.1).cell 0; have s1 := (hSw.1).cell 1; have s2 := (hSw.1).cell 2; have s3 := (hSw.1).cell 3; have s4 := (hSw.1).cell 4; have s5 := (hSw.1).cell 5; have s6 := (hSw.1).cell 6; have s7 := (hSw.1).cell 7; have s8 := (hSw.1).cell 8; go_simp; try with_reducible rfl)
  try simp only [Act.put, List.setIfInBounds_toArray, List.set_cons_zero, List.set_cons_succ, List.getElem_toArray, List.getElem_cons_zero, List.getElem_cons_succ]
  refine wpAnyH_take (i := 10) (v := ?_) rfl (by kernel_rfl) (by kernel_rfl) (by kernel_rfl) (fun _ _ _ h => h) (Or.inl ⟨by rfl, ?_⟩) hHeld ?_
  rotate_left
  · (intro w hSw; (try dsimp only at hSw); have s0 := (hSw.2).cell 0; have s1 := (hSw.2).cell 1; have s2 := (hSw.2).cell 2; have s3 := (hSw.2).cell 3; have s4 := (hSw.2).cell 4; have s5 := (hSw.2).cell 5; have s6 := (hSw.2).cell 6; have s7 := (hSw.2).cell 7; have s8 := (hSw.2).cell 8; go_simp; try with_reducible rfl)
  try simp only [Act.put, List.setIfInBounds_toArray, List.set_cons_zero, List.set_cons_succ, List.getElem_toArray, List.getElem_cons_zero, List.getElem_cons_succ]
  refine wpAnyH_take (i := 11) (v := ?_) rfl (by kernel_rfl) (by kernel_rfl) (by kernel_rfl) (fun _ _ _ h => h) (Or.inl ⟨by rfl, ?_⟩) hHeld ?_
  rotate_left
  · (intro w hSw; (try dsimp only at hSw); go_simp; try with_reducible rfl)
  try simp only [Act.put, List.setIfInBounds_toArray, List.set_cons_zero, List.set_cons_succ, List.getElem_toArray, List.getElem_cons_zero, List.getElem_cons_succ]
  refine wpAnyH_ready (rs := [3]) (by kernel_rfl) (by simp) ?_
  refine AllReadyH.cons rfl (fun K hK => ?_) AllReadyH.nil
  go_simp
  refine (HX.out _).mono ?_
  rintro e w2 ⟨hb2, v2, rfl, ho2⟩
  obtain ⟨a2, cap2, rfl, bs2, -, -⟩ := owns_bs ho2 BX.out
  go_wp2_with fail
  refine hK.out _ _ (⟨hHeld.1.over hb2, hHeld.2.over hb2⟩) (fun hHeld => ?_)
  clear hK K
  try simp only [Act.put, List.setIfInBounds_toArray, List.set_cons_zero, List.set_cons_succ, List.getElem_toArray, List.getElem_cons_zero, List.getElem_cons_succ]
  refine wpAnyH_switch (S2 := (fun w' => (Blk w' B1 26 [.int .u32 n, .int .u32 a, .int .u64 p, .int .u64 x0, .int .u64 x1, .int .u64 x2, .int .u64 x3, .int .u64 x4, .int .u64 x5] ∧ Blk w' B2 26 [.int .u32 n2, .int .u32 c2, .int .u64 p2, .int .u64 y0, .int .u64 y1, .int .u64 y2, .int .u64 y3, .int .u64 y4, .int .u64 y5]) ∧ Bs w' a2 64 ex)) (fun _ h => h.1) ?_
  replace hHeld : ((fun w' => (Blk w' B1 26 [.int .u32 n, .int .u32 a, .int .u64 p, .int .u64 x0, .int .u64 x1, .int .u64 x2, .int .u64 x3, .int .u64 x4, .int .u64 x5] ∧ Blk w' B2 26 [.int .u32 n2, .int .u32 c2, .int .u64 p2, .int .u64 y0, .int .u64 y1, .int .u64 y2, .int .u64 y3, .int .u64 y4, .int .u64 y5]) ∧ Bs w' a2 64 ex)) _ := ⟨hHeld, bs2⟩
  refine wpAnyH_take (i := 4) (v := ?_) rfl (by kernel_rfl) (by kernel_rfl) (by kernel_rfl) (fun _ _ _ h => h) (Or.inl ⟨by rfl, ?_⟩) hHeld ?_
  rotate_left
  · (intro w hSw; (try dsimp only at hSw); have cx := run_text hSw.2 cap2; go_simp; try with_reducible rfl)
  try simp only [Act.put, List.setIfInBounds_toArray, List.set_cons_zero, List.set_cons_succ, List.getElem_toArray, List.getElem_cons_zero, List.getElem_cons_succ]
  refine wpAnyH_ready (rs := [6]) (by kernel_rfl) (by simp) ?_
  refine AllReadyH.cons rfl (fun K hK => ?_) AllReadyH.nil
  go_simp
  refine (HY.out _).mono ?_
  rintro e w3 ⟨hb3, v3, rfl, ho3⟩
  obtain ⟨a3, cap3, rfl, bs3, -, -⟩ := owns_bs ho3 BY.out
  go_wp2_with fail
  refine hK.out _ _ (⟨⟨hHeld.1.1.over hb3, hHeld.1.2.over hb3⟩, hHeld.2.below hb3⟩) (fun hHeld => ?_)
  clear hK K
  try simp only [Act.put, List.setIfInBounds_toArray, List.set_cons_zero, List.set_cons_succ, List.getElem_toArray, List.getElem_cons_zero, List.getElem_cons_succ]
  refine wpAnyH_switch (S2 := (fun w' => ((Blk w' B1 26 [.int .u32 n, .int .u32 a, .int .u64 p, .int .u64 x0, .int .u64 x1, .int .u64 x2, .int .u64 x3, .int .u64 x4, .int .u64 x5] ∧ Blk w' B2 26 [.int .u32 n2, .int .u32 c2, .int .u64 p2, .int .u64 y0, .int .u64 y1, .int .u64 y2, .int .u64 y3, .int .u64 y4, .int .u64 y5]) ∧ Bs w' a2 64 ex) ∧ Bs w' a3 64 ey)) (fun _ h => h.1) ?_
  replace hHeld : ((fun w' => ((Blk w' B1 26 [.int .u32 n, .int .u32 a, .int .u64 p, .int .u64 x0, .int .u64 x1, .int .u64 x2, .int .u64 x3, .int .u64 x4, .int .u64 x5] ∧ Blk w' B2 26 [.int .u32 n2, .int .u32 c2, .int .u64 p2, .int .u64 y0, .int .u64 y1, .int .u64 y2, .int .u64 y3, .int .u64 y4, .int .u64 y5]) ∧ Bs w' a2 64 ex) ∧ Bs w' a3 64 ey)) _ := ⟨hHeld, bs3⟩
  refine wpAnyH_take (i := 7) (v := ?_) rfl (by kernel_rfl) (by kernel_rfl) (by kernel_rfl) (fun _ _ _ h => h) (Or.inl ⟨by rfl, ?_⟩) hHeld ?_
  rotate_left
  · (intro w hSw; (try dsimp only at hSw); have cx := run_text hSw.2 cap3; go_simp; try with_reducible rfl)
  try simp only [Act.put, List.setIfInBounds_toArray, List.set_cons_zero, List.set_cons_succ, List.getElem_toArray, List.getElem_cons_zero, List.getElem_cons_succ]
  refine wpAnyH_take (i := 8) (v := ?_) rfl (by kernel_rfl) (by kernel_rfl) (by kernel_rfl) (fun _ _ _ h => h) (Or.inl ⟨by rfl, ?_⟩) hHeld ?_
  rotate_left
  · (intro w hSw; (try dsimp only at hSw); go_simp; try with_reducible rfl)
  try simp only [Act.put, List.setIfInBounds_toArray, List.set_cons_zero, List.set_cons_succ, List.getElem_toArray, List.getElem_cons_zero, List.getElem_cons_succ]
  refine wpAnyH_take (i := 12) (v := ?_) rfl (by kernel_rfl) (by kernel_rfl) (by kernel_rfl) (fun _ _ _ h => h) (Or.inl ⟨by rfl, ?_⟩) hHeld ?_
  rotate_left
  · (intro w hSw; (try dsimp only at hSw); go_simp; try with_reducible rfl)
  try simp only [Act.put, List.setIfInBounds_toArray, List.set_cons_zero, List.set_cons_succ, List.getElem_toArray, List.getElem_cons_zero, List.getElem_cons_succ]
  refine wpAnyH_take (i := 13) (v := ?_) rfl (by kernel_rfl) (by kernel_rfl) (by kernel_rfl) (fun _ _ _ h => h) (Or.inl ⟨by rfl, ?_⟩) hHeld ?_
  rotate_left
  · (intro w hSw; (try dsimp only at hSw); go_simp; try with_reducible rfl)
  try simp only [Act.put, List.setIfInBounds_toArray, List.set_cons_zero, List.set_cons_succ, List.getElem_toArray, List.getElem_cons_zero, List.getElem_cons_succ]
  refine wpAnyH_take (i := 14) (v := ?_) rfl (by kernel_rfl) (by kernel_rfl) (by kernel_rfl) (fun _ _ _ h => h) (Or.inl ⟨by rfl, ?_⟩) hHeld ?_
  rotate_left
  · (intro w hSw; (try dsimp only at hSw); go_simp; try with_reducible rfl)
  try simp only [Act.put, List.setIfInBounds_toArray, List.set_cons_zero, List.set_cons_succ, List.getElem_toArray, List.getElem_cons_zero, List.getElem_cons_succ]
  refine wpAnyH_done (by kernel_rfl) ?_ _
  go_wp2_with fail
  go_ret
  have z1 : B1 ≤ X.drew.heap.size := by rw [← hB1]; exact bX.size
  have c1 := bX.drew.trans (hb2.mono z1)
  have z2 : B1 ≤ w2.heap.size := by rw [← hB1]; exact c1.size
  exact ⟨by first | rfl | simp, c1.trans (hb3.mono z2)⟩

end Go.Proofs.Ytkfpcdnkpafphaa
