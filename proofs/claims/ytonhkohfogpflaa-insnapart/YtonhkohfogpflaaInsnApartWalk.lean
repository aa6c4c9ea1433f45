/-
  The law InsnApart, walked: true for every two instructions.
-/
import Derived.Test.YtonhkohfogpflaaAwake
import Derived.Test.YtonhkohfogpflaaDecode
import Derived.Test.YtonhkohfogpflaaSame
import Derived.Test.YtonhkohfogpflaaSwitch
namespace Go.Proofs.Ytonhkohfogpflaa
open Go.RowKit

theorem four_cells {w w' : World} {b : Nat} {u0 u1 u2 u3 : Value} (h : Four w b u0 u1 u2 u3) (hb : Below w.heap.size w w') : Four w' b u0 u1 u2 u3 := h.below hb h.lt

set_option linter.unusedSimpArgs false in
set_option maxHeartbeats 1000000 in
theorem insnApart_walk (x y : In) (w : World) (hx : x.ok) (hy : y.ok) :
    Calls Try.prog 7 #[x.val, y.val] w fun e w' => e = .returned (.bool true) ∧ Below w.heap.size w w' := by
  have BX : Hid (Byt x.enc) := x.enc_byt hx
  have BY : Hid (Byt y.enc) := y.enc_byt hy
  have HX : Hid (∀ W : World, Calls Try.prog 18 #[x.val] W fun e w' => Below W.heap.size W w' ∧ ∃ v', e = .returned v' ∧ w'.ownsRow W.heap.size 5 1 v' 8 (cellsB x.enc)) := fun W => encode_any x W hx
  have HY : Hid (∀ W : World, Calls Try.prog 18 #[y.val] W fun e w' => Below W.heap.size W w' ∧ ∃ v', e = .returned v' ∧ w'.ownsRow W.heap.size 5 1 v' 8 (cellsB y.enc)) := fun W => encode_any y W hy
  have hq1 : ∀ W : World, (binOp .eql 27 x.val y.val).run Try.prog W = .ok (.bool (x.same y)) W := eql_in x y
  have hq2 : ∀ W : World, (Op.equalIn 10000 27 x.val y.val).run Try.prog W = .ok (x.same y) W := equalIn_in x y
  have hq3 := str_same x y hx hy
  generalize x.same y = q at *
  generalize x.enc = ex at *
  generalize y.enc = ey at *
  obtain ⟨c, t, f, k⟩ := x
  obtain ⟨c2, t2, f2, k2⟩ := y
  unfold In.val at *
  dsimp only at *
  clear hx hy
  have f1 := four_new w (.int .u16 c) (.int .u8 t) (.int .u8 f) (.int .u32 k)
  have b1 : Below w.heap.size w (w.alloc (Obj.cells #[.int .u16 c, .int .u8 t, .int .u8 f, .int .u32 k] 27)) := (Below.refl _ _).alloc (Nat.le_refl _) _
  have f2' := four_new (w.alloc (Obj.cells #[.int .u16 c, .int .u8 t, .int .u8 f, .int .u32 k] 27)) (.int .u16 c2) (.int .u8 t2) (.int .u8 f2) (.int .u32 k2)
  rw [size_alloc'] at f2'
  have f1' : Four ((w.alloc (Obj.cells #[.int .u16 c, .int .u8 t, .int .u8 f, .int .u32 k] 27)).alloc (Obj.cells #[.int .u16 c2, .int .u8 t2, .int .u8 f2, .int .u32 k2] 27)) w.heap.size (.int .u16 c) (.int .u8 t) (.int .u8 f) (.int .u32 k) := four_cells f1 ((Below.refl _ _).alloc (Nat.le_refl _) _)
  have b2 : Below w.heap.size w ((w.alloc (Obj.cells #[.int .u16 c, .int .u8 t, .int .u8 f, .int .u32 k] 27)).alloc (Obj.cells #[.int .u16 c2, .int .u8 t2, .int .u8 f2, .int .u32 k2] 27)) := b1.alloc b1.size _
  clear f1 b1
  go_enter Try.func7, Try.ntmps7
  go_wp2_with fail
  generalize (w.alloc (Obj.cells #[.int .u16 c, .int .u8 t, .int .u8 f, .int .u32 k] 27)).alloc (Obj.cells #[.int .u16 c2, .int .u8 t2, .int .u8 f2, .int .u32 k2] 27) = W0 at *
  refine (awake_any _).mono ?_
  rintro e X ⟨rfl, hbX⟩
  have g1 := four_cells f1' hbX
  have g2 := four_cells f2' hbX
  have bX := b2.trans (hbX.mono b2.size)
  clear f1' f2' hbX b2
  generalize hB1 : w.heap.size = B1 at *
  generalize hB2 : B1 + 1 = B2 at *
  have p0 := g1.c0
  have p1 := g1.c1
  have p2 := g1.c2
  have p3 := g1.c3
  have r0 := g2.c0
  have r1 := g2.c1
  have r2 := g2.c2
  have r3 := g2.c3
  go_wp2_with fail
  refine wp_region_held_drew (S := (fun w' => Four w' B1 (.int .u16 c) (.int .u8 t) (.int .u8 f) (.int .u32 k) ∧ Four w' B2 (.int .u16 c2) (.int .u8 t2) (.int .u8 f2) (.int .u32 k2))) (by kernel_rfl) (⟨four_cells g1 (Below.refl _ _).drew, four_cells g2 (Below.refl _ _).drew⟩) (fun hHeld => ?_)
  simp only [List.size_toArray, List.length_cons, List.length_nil, Nat.reduceAdd]
  refine wpAnyH_take (i := 0) (v := ?_) rfl (by kernel_rfl) (by kernel_rfl) (by kernel_rfl) (fun _ _ _ h => h) (Or.inl ⟨by rfl, ?_⟩) hHeld ?_
  rotate_left
  · (intro w hSw; (try dsimp only at hSw); go_simp; try with_reducible rfl)
  try simp only [Act.put, List.setIfInBounds_toArray, List.set_cons_zero, List.set_cons_succ, List.getElem_toArray, List.getElem_cons_zero, List.getElem_cons_succ]
  refine wpAnyH_take (i := 1) (v := ?_) rfl (by kernel_rfl) (by kernel_rfl) (by kernel_rfl) (fun _ _ _ h => h) (Or.inl ⟨by rfl, ?_⟩) hHeld ?_
  rotate_left
  · (intro w hSw; (try dsimp only at hSw); go_simp; try with_reducible rfl)
  try simp only [Act.put, List.setIfInBounds_toArray, List.set_cons_zero, List.set_cons_succ, List.getElem_toArray, List.getElem_cons_zero, List.getElem_cons_succ]
  refine wpAnyH_take (i := 2) (v := ?_) rfl (by kernel_rfl) (by kernel_rfl) (by kernel_rfl) (fun _ _ _ h => h) (Or.inl ⟨by rfl, ?_⟩) hHeld ?_
  rotate_left
  · (intro w hSw; (try dsimp only at hSw); have s0 := hSw.1.c0; have s1 := hSw.1.c1; have s2 := hSw.1.c2; have s3 := hSw.1.c3; go_simp; try with_reducible rfl)
  try simp only [Act.put, List.setIfInBounds_toArray, List.set_cons_zero, List.set_cons_succ, List.getElem_toArray, List.getElem_cons_zero, List.getElem_cons_succ]
  refine wpAnyH_take (i := 5) (v := ?_) rfl (by kernel_rfl) (by kernel_rfl) (by kernel_rfl) (fun _ _ _ h => h) (Or.inl ⟨by rfl, ?_⟩) hHeld ?_
  rotate_left
  · (intro w hSw; (try dsimp only at hSw); have s0 := hSw.2.c0; have s1 := hSw.2.c1; have s2 := hSw.2.c2; have s3 := hSw.2.c3; go_simp; try with_reducible rfl)
  try simp only [Act.put, List.setIfInBounds_toArray, List.set_cons_zero, List.set_cons_succ, List.getElem_toArray, List.getElem_cons_zero, List.getElem_cons_succ]
  refine wpAnyH_take (i := 9) (v := ?_) rfl (by kernel_rfl) (by kernel_rfl) (by kernel_rfl) (fun _ _ _ h => h) (Or.inl ⟨by rfl, ?_⟩) hHeld ?_
  rotate_left
  · (intro w hSw; (try dsimp only at hSw); have s0 := hSw.1.c0; have s1 := hSw.1.c1; have s2 := hSw.1.c2; have s3 := hSw.1.c3; go_simp; try with_reducible rfl)
  try simp only [Act.put, List.setIfInBounds_toArray, List.set_cons_zero, List.set_cons_succ, List.getElem_toArray, List.getElem_cons_zero, List.getElem_cons_succ]
  refine wpAnyH_take (i := 10) (v := ?_) rfl (by kernel_rfl) (by kernel_rfl) (by kernel_rfl) (fun _ _ _ h => h) (Or.inl ⟨by rfl, ?_⟩) hHeld ?_
  rotate_left
  · (intro w hSw; (try dsimp only at hSw); have s0 := hSw.2.c0; have s1 := hSw.2.c1; have s2 := hSw.2.c2; have s3 := hSw.2.c3; go_simp; try with_reducible rfl)
  try simp only [Act.put, List.setIfInBounds_toArray, List.set_cons_zero, List.set_cons_succ, List.getElem_toArray, List.getElem_cons_zero, List.getElem_cons_succ]
  refine wpAnyH_take (i := 11) (v := ?_) rfl (by kernel_rfl) (by kernel_rfl) (by kernel_rfl) (fun _ _ _ h => h) (Or.inl ⟨by rfl, ?_⟩) hHeld ?_
  rotate_left
  · (intro w hSw; (try dsimp only at hSw); go_simp; try with_reducible rfl)
  try simp only [Act.put, List.setIfInBounds_toArray, List.set_cons_zero, List.set_cons_succ, List.getElem_toArray, List.getElem_cons_zero, List.getElem_cons_succ]
  refine wpAnyH_ready (rs := [3]) (by kernel_rfl) (by simp) ?_
  refine AllReadyH.cons rfl (fun K hK => ?_) AllReadyH.nil
  go_simp
  refine (HX.out _).mono ?_
  rintro e w2 ⟨hb2, v2, rfl, ho2⟩
  obtain ⟨a2, cap2, rfl, bs2, _⟩ := owns_bs ho2 BX.out
  go_wp2_with fail
  refine hK.out _ _ (⟨four_cells hHeld.1 hb2, four_cells hHeld.2 hb2⟩) (fun hHeld => ?_)
  clear hK K
  try simp only [Act.put, List.setIfInBounds_toArray, List.set_cons_zero, List.set_cons_succ, List.getElem_toArray, List.getElem_cons_zero, List.getElem_cons_succ]
  refine wpAnyH_switch (S2 := (fun w' => (Four w' B1 (.int .u16 c) (.int .u8 t) (.int .u8 f) (.int .u32 k) ∧ Four w' B2 (.int .u16 c2) (.int .u8 t2) (.int .u8 f2) (.int .u32 k2)) ∧ Bs w' a2 8 ex)) (fun _ h => h.1) ?_
  replace hHeld : ((fun w' => (Four w' B1 (.int .u16 c) (.int .u8 t) (.int .u8 f) (.int .u32 k) ∧ Four w' B2 (.int .u16 c2) (.int .u8 t2) (.int .u8 f2) (.int .u32 k2)) ∧ Bs w' a2 8 ex)) _ := ⟨hHeld, bs2⟩
  refine wpAnyH_take (i := 4) (v := ?_) rfl (by kernel_rfl) (by kernel_rfl) (by kernel_rfl) (fun _ _ _ h => h) (Or.inl ⟨by rfl, ?_⟩) hHeld ?_
  rotate_left
  · (intro w hSw; (try dsimp only at hSw); have cx := run_text hSw.2 cap2; go_simp; try with_reducible rfl)
  try simp only [Act.put, List.setIfInBounds_toArray, List.set_cons_zero, List.set_cons_succ, List.getElem_toArray, List.getElem_cons_zero, List.getElem_cons_succ]
  refine wpAnyH_ready (rs := [6]) (by kernel_rfl) (by simp) ?_
  refine AllReadyH.cons rfl (fun K hK => ?_) AllReadyH.nil
  go_simp
  refine (HY.out _).mono ?_
  rintro e w3 ⟨hb3, v3, rfl, ho3⟩
  obtain ⟨a3, cap3, rfl, bs3, _⟩ := owns_bs ho3 BY.out
  go_wp2_with fail
  refine hK.out _ _ (⟨⟨four_cells hHeld.1.1 hb3, four_cells hHeld.1.2 hb3⟩, hHeld.2.below hb3⟩) (fun hHeld => ?_)
  clear hK K
  try simp only [Act.put, List.setIfInBounds_toArray, List.set_cons_zero, List.set_cons_succ, List.getElem_toArray, List.getElem_cons_zero, List.getElem_cons_succ]
  refine wpAnyH_switch (S2 := (fun w' => ((Four w' B1 (.int .u16 c) (.int .u8 t) (.int .u8 f) (.int .u32 k) ∧ Four w' B2 (.int .u16 c2) (.int .u8 t2) (.int .u8 f2) (.int .u32 k2)) ∧ Bs w' a2 8 ex) ∧ Bs w' a3 8 ey)) (fun _ h => h.1) ?_
  replace hHeld : ((fun w' => ((Four w' B1 (.int .u16 c) (.int .u8 t) (.int .u8 f) (.int .u32 k) ∧ Four w' B2 (.int .u16 c2) (.int .u8 t2) (.int .u8 f2) (.int .u32 k2)) ∧ Bs w' a2 8 ex) ∧ Bs w' a3 8 ey)) _ := ⟨hHeld, bs3⟩
  refine wpAnyH_take (i := 7) (v := ?_) rfl (by kernel_rfl) (by kernel_rfl) (by kernel_rfl) (fun _ _ _ h => h) (Or.inl ⟨by rfl, ?_⟩) hHeld ?_
  rotate_left
  · (intro w hSw; (try dsimp only at hSw); have cx := run_text hSw.2 cap3; go_simp; try with_reducible rfl)
  try simp only [Act.put, List.setIfInBounds_toArray, List.set_cons_zero, List.set_cons_succ, List.getElem_toArray, List.getElem_cons_zero, List.getElem_cons_succ]
  refine wpAnyH_take (i := 8) (v := ?_) rfl (by kernel_rfl) (by kernel_rfl) (by kernel_rfl) (fun _ _ _ h => h) (Or.inl ⟨by rfl, ?_⟩) hHeld ?_
  rotate_left
  · (intro w hSw; (try dsimp only at hSw); go_simp; try with_reducible rfl)
  try simp only [Act.put, List.setIfInBounds_toArray, List.set_cons_zero, List.set_cons_succ, List.getElem_toArray, List.getElem_cons_zero, List.getElem_cons_succ]
  refine wpAnyH_take (i := 12) (v := ?_) rfl (by kernel_rfl) (by kernel_rfl) (by kernel_rfl) (fun _ _ _ h => h) (Or.inl ⟨by rfl, ?_⟩) hHeld ?_
  rotate_left
  · (intro w hSw; (try dsimp only at hSw); go_simp; try with_reducible rfl)
  try simp only [Act.put, List.setIfInBounds_toArray, List.set_cons_zero, List.set_cons_succ, List.getElem_toArray, List.getElem_cons_zero, List.getElem_cons_succ]
  refine wpAnyH_take (i := 13) (v := ?_) rfl (by kernel_rfl) (by kernel_rfl) (by kernel_rfl) (fun _ _ _ h => h) (Or.inl ⟨by rfl, ?_⟩) hHeld ?_
  rotate_left
  · (intro w hSw; (try dsimp only at hSw); go_simp; try with_reducible rfl)
  try simp only [Act.put, List.setIfInBounds_toArray, List.set_cons_zero, List.set_cons_succ, List.getElem_toArray, List.getElem_cons_zero, List.getElem_cons_succ]
  refine wpAnyH_take (i := 14) (v := ?_) rfl (by kernel_rfl) (by kernel_rfl) (by kernel_rfl) (fun _ _ _ h => h) (Or.inl ⟨by rfl, ?_⟩) hHeld ?_
  rotate_left
  · (intro w hSw; (try dsimp only at hSw); go_simp; try with_reducible rfl)
  try simp only [Act.put, List.setIfInBounds_toArray, List.set_cons_zero, List.set_cons_succ, List.getElem_toArray, List.getElem_cons_zero, List.getElem_cons_succ]
  refine wpAnyH_done (by kernel_rfl) ?_ _
  go_wp2_with fail
  go_ret
  have z1 : B1 ≤ X.drew.heap.size := by rw [← hB1]; exact bX.size
  have c1 := bX.drew.trans (hb2.mono z1)
  have z2 : B1 ≤ w2.heap.size := by rw [← hB1]; exact c1.size
  exact ⟨rfl, c1.trans (hb3.mono z2)⟩

end Go.Proofs.Ytonhkohfogpflaa
