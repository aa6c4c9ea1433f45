/-
  The law DataBytes, walked: true for every call and all bytes.
-/
import Derived.Test.YtkfpcdnkpafphaaAwake
import Derived.Test.YtkfpcdnkpafphaaStep
import Derived.Test.YtkfpcdnkpafphaaRefBytes
import Derived.Test.YtkfpcdnkpafphaaRefOf
namespace Go.Proofs.Ytkfpcdnkpafphaa
open Go.RowKit

set_option linter.unusedSimpArgs false in
set_option maxHeartbeats 2000000 in
theorem dataBytes_walk (x : Da) (a1 : Option Addr) (len1 cap1 : Nat) (l : List Int) (w : World) (hx : x.ok) (hb : Bs w a1 len1 l) (hc : len1 ≤ cap1) :
    Calls Try.prog 3 #[x.val, .slice a1 len1 cap1] w fun e w' => e = .returned (.bool true) ∧ Below w.heap.size w w' := by
  have BX : Hid (Byt x.enc) := enc_byt x hx
  have HX : Hid (∀ W : World, Calls Try.prog 12 #[x.val] W fun e w' => Below W.heap.size W w' ∧ ∃ v', e = .returned v' ∧ w'.ownsRow W.heap.size 5 1 v' 64 (cellsB x.enc)) := fun W => bytes_any x W hx
  have HR : Hid (∀ W : World, Calls Try.prog 13 #[x.val] W fun e w' => Below W.heap.size W w' ∧ ∃ v', e = .returned v' ∧ w'.ownsRow W.heap.size 5 1 v' 64 (cellsB x.enc)) := fun W => refBytes_any x W hx
  have HD : Hid (∀ W : World, Bs W a1 len1 l → Calls Try.prog 10 #[.slice a1 len1 cap1] W fun e w' => e = .returned (.tuple #[(decOf l).val, .int .i64 (errOf len1)]) ∧ Below W.heap.size W w') := fun W h => of_any a1 len1 cap1 l W h
  have HE : Hid (∀ W : World, Bs W a1 len1 l → Calls Try.prog 11 #[.slice a1 len1 cap1] W fun e w' => e = .returned (.tuple #[(decOf l).val, .int .i64 (errOf len1)]) ∧ Below W.heap.size W w') := fun W h => refOf_any a1 len1 cap1 l W h hc
  have ok2 := decOf_ok l hb.2.1
  have hq1 : ∀ W : World, (binOp .eql 26 (decOf l).val (decOf l).val).run Try.prog W = .ok (.bool true) W := fun W => by rw [eql_da _ _ W ok2 ok2, Da.same_self]
  have hq2 : ∀ W : World, (Op.equalIn 10000 26 (decOf l).val (decOf l).val).run Try.prog W = .ok true W := fun W => by rw [equalIn_da _ _ W ok2 ok2, Da.same_self]
  have hl := hx.2.2.2.1
  have hl2 := ok2.2.2.2.1
  have HB : Hid (Bs w a1 len1 l) := hb
  generalize x.enc = ex at *
  generalize errOf len1 = er at *
  generalize decOf l = y at *
  clear hx ok2 hb hc
  obtain ⟨n, a, p, g⟩ := x
  obtain ⟨n2, c2, p2, g2⟩ := y
  obtain ⟨x0, x1, x2, x3, x4, x5, rfl⟩ := six hl
  obtain ⟨y0, y1, y2, y3, y4, y5, rfl⟩ := six hl2
  clear hl hl2
  unfold Da.val Da.cells at *
  simp only [List.map_cons, List.map_nil] at *
  have f1 := blk_new w #[.int .u32 n, .int .u32 a, .int .u64 p, .int .u64 x0, .int .u64 x1, .int .u64 x2, .int .u64 x3, .int .u64 x4, .int .u64 x5] 26
  have b1 : Below w.heap.size w (w.alloc (Obj.cells #[.int .u32 n, .int .u32 a, .int .u64 p, .int .u64 x0, .int .u64 x1, .int .u64 x2, .int .u64 x3, .int .u64 x4, .int .u64 x5] 26)) := (Below.refl _ _).alloc (Nat.le_refl _) _
  go_enter Try.func3, Try.ntmps3
  go_wp2_with fail
  generalize w.alloc (Obj.cells #[.int .u32 n, .int .u32 a, .int .u64 p, .int .u64 x0, .int .u64 x1, .int .u64 x2, .int .u64 x3, .int .u64 x4, .int .u64 x5] 26) = W0 at *
  refine (awake_any _).mono ?_
  rintro e X ⟨rfl, hX⟩
  have f2 := f1.over hX
  have b2 := b1.trans (hX.mono b1.size)
  clear f1 b1 hX
  go_wp2_with fail
  refine (HD.out X (HB.out.below b2)).mono ?_
  rintro e Y ⟨rfl, hY⟩
  have f3 := f2.over hY
  have b3 := b2.trans (hY.mono b2.size)
  clear f2 b2 hY
  go_wp2_with fail
  have f4 := f3.alloc (Obj.cells #[.int .u32 n2, .int .u32 c2, .int .u64 p2, .int .u64 y0, .int .u64 y1, .int .u64 y2, .int .u64 y3, .int .u64 y4, .int .u64 y5] 26)
  have f5 := blk_new Y #[.int .u32 n2, .int .u32 c2, .int .u64 p2, .int .u64 y0, .int .u64 y1, .int .u64 y2, .int .u64 y3, .int .u64 y4, .int .u64 y5] 26
  have b4 := b3.alloc b3.size (Obj.cells #[.int .u32 n2, .int .u32 c2, .int .u64 p2, .int .u64 y0, .int .u64 y1, .int .u64 y2, .int .u64 y3, .int .u64 y4, .int .u64 y5] 26)
  generalize hB2 : Y.heap.size = B2 at *
  generalize Y.alloc (Obj.cells #[.int .u32 n2, .int .u32 c2, .int .u64 p2, .int .u64 y0, .int .u64 y1, .int .u64 y2, .int .u64 y3, .int .u64 y4, .int .u64 y5] 26) = Y1 at *
  clear f3 b3
  refine (HE.out Y1 (HB.out.below b4)).mono ?_
  rintro e Z ⟨rfl, hZ⟩
  have f6 := f4.over hZ
  have f7 := f5.over hZ
  have b5 := b4.trans (hZ.mono b4.size)
  clear f4 f5 b4 hZ
  go_wp2_with fail
  have f8 := f6.alloc (Obj.cells #[.int .u32 n2, .int .u32 c2, .int .u64 p2, .int .u64 y0, .int .u64 y1, .int .u64 y2, .int .u64 y3, .int .u64 y4, .int .u64 y5] 26)
  have f9 := f7.alloc (Obj.cells #[.int .u32 n2, .int .u32 c2, .int .u64 p2, .int .u64 y0, .int .u64 y1, .int .u64 y2, .int .u64 y3, .int .u64 y4, .int .u64 y5] 26)
  have f10 := blk_new Z #[.int .u32 n2, .int .u32 c2, .int .u64 p2, .int .u64 y0, .int .u64 y1, .int .u64 y2, .int .u64 y3, .int .u64 y4, .int .u64 y5] 26
  have b6 := b5.alloc b5.size (Obj.cells #[.int .u32 n2, .int .u32 c2, .int .u64 p2, .int .u64 y0, .int .u64 y1, .int .u64 y2, .int .u64 y3, .int .u64 y4, .int .u64 y5] 26)
  generalize hB3 : Z.heap.size = B3 at *
  generalize Z.alloc (Obj.cells #[.int .u32 n2, .int .u32 c2, .int .u64 p2, .int .u64 y0, .int .u64 y1, .int .u64 y2, .int .u64 y3, .int .u64 y4, .int .u64 y5] 26) = V at *
  clear f6 f7 b5 hB2 hB3 HD HE HB
  have g1 : Hid (Blk V w.heap.size 26 [.int .u32 n, .int .u32 a, .int .u64 p, .int .u64 x0, .int .u64 x1, .int .u64 x2, .int .u64 x3, .int .u64 x4, .int .u64 x5]) := f8
  have g2 : Hid (Blk V B2 26 [.int .u32 n2, .int .u32 c2, .int .u64 p2, .int .u64 y0, .int .u64 y1, .int .u64 y2, .int .u64 y3, .int .u64 y4, .int .u64 y5]) := f9
  have g3 : Hid (Blk V B3 26 [.int .u32 n2, .int .u32 c2, .int .u64 p2, .int .u64 y0, .int .u64 y1, .int .u64 y2, .int .u64 y3, .int .u64 y4, .int .u64 y5]) := f10
  clear f8 f9 f10
  generalize hB1 : w.heap.size = B1 at *
  refine wp_region_held_drew (S := (fun w' => Blk w' B1 26 [.int .u32 n, .int .u32 a, .int .u64 p, .int .u64 x0, .int .u64 x1, .int .u64 x2, .int .u64 x3, .int .u64 x4, .int .u64 x5] ∧ Blk w' B2 26 [.int .u32 n2, .int .u32 c2, .int .u64 p2, .int .u64 y0, .int .u64 y1, .int .u64 y2, .int .u64 y3, .int .u64 y4, .int .u64 y5] ∧ Blk w' B3 26 [.int .u32 n2, .int .u32 c2, .int .u64 p2, .int .u64 y0, .int .u64 y1, .int .u64 y2, .int .u64 y3, .int .u64 y4, .int .u64 y5])) (by kernel_rfl) (⟨g1.out.drew, g2.out.drew, g3.out.drew⟩) (fun hHeld => ?_)
  simp only [List.size_toArray, List.length_cons, List.length_nil, Nat.reduceAdd]
  refine wpAnyH_take (i := 0) (v := ?_) rfl (by kernel_rfl) (by kernel_rfl) (by kernel_rfl) (fun _ _ _ h => h) (Or.inl ⟨by rfl, ?_⟩) hHeld ?_
  rotate_left
  · (intro w hSw; (try dsimp only at hSw); go_simp; try with_reducible rfl)
  try simp only [Act.put, List.setIfInBounds_toArray, List.set_cons_zero, List.set_cons_succ, List.getElem_toArray, List.getElem_cons_zero, List.getElem_cons_succ]
  refine wpAnyH_take (i := 1) (v := ?_) rfl (by kernel_rfl) (by kernel_rfl) (by kernel_rfl) (fun _ _ _ h => h) (Or.inl ⟨by rfl, ?_⟩) hHeld ?_
  rotate_left
  · (intro w hSw; (try dsimp only at hSw); go_simp; try with_reducible rfl)
  try simp only [Act.put, List.setIfInBounds_toArray, List.set_cons_zero, List.set_cons_succ, List.getElem_toArray, List.getElem_cons_zero, List.getElem_cons_succ]
  refine wpAnyH_take (i := 2) (v := ?_) rfl (by kernel_rfl) (by kernel_rfl) (by kernel_rfl) (fun _ _ _ h => h) (Or.inl ⟨by rfl, ?_⟩) hHeld ?_
  rotate_left
  · (intro w hSw; (try dsimp only at hSw); have s0 := (hSw.1).cell 0; have s1 := (hSw.1).cell 1; have s2 := (hSw.1).cell 2; have s3 := (hSw.1).cell 3; have s4 := (hSw.1).cell 4; have s5 := (hSw.1).cell 5; have s6 := (hSw.1).cell 6; have s7 := (hSw.1).cell 7; have s8 := (hSw.1).cell 8; go_simp; try with_reducible rfl)
  try simp only [Act.put, List.setIfInBounds_toArray, List.set_cons_zero, List.set_cons_succ, List.getElem_toArray, List.getElem_cons_zero, List.getElem_cons_succ]
  refine wpAnyH_take (i := 5) (v := ?_) rfl (by kernel_rfl) (by kernel_rfl) (by kernel_rfl) (fun _ _ _ h => h) (Or.inl ⟨by rfl, ?_⟩) hHeld ?_
  rotate_left
  · (intro w hSw; (try dsimp only at hSw); have s0 := (hSw.1).cell 0; have s1 := (hSw.1).cell 1; have s2 := (hSw.1).cell 2; have s3 := (hSw.1).cell 3; have s4 := (hSw.1).cell 4; have s5 := (hSw.1).cell 5; have s6 := (hSw.1).cell 6; have s7 := (hSw.1).cell 7; have s8 := (hSw.1).cell 8; go_simp; try with_reducible rfl)
  try simp only [Act.put, List.setIfInBounds_toArray, List.set_cons_zero, List.set_cons_succ, List.getElem_toArray, List.getElem_cons_zero, List.getElem_cons_succ]
  refine wpAnyH_ready (rs := [3]) (by kernel_rfl) (by simp) ?_
  refine AllReadyH.cons rfl (fun K hK => ?_) AllReadyH.nil
  go_simp
  refine (HX.out _).mono ?_
  rintro e w2 ⟨hb2, v2, rfl, ho2⟩
  obtain ⟨a2, cap2, rfl, bs2, -, -⟩ := owns_bs ho2 BX.out
  go_wp2_with fail
  refine hK.out _ _ (⟨hHeld.1.over hb2, hHeld.2.1.over hb2, hHeld.2.2.over hb2⟩) (fun hHeld => ?_)
  clear hK K
  try simp only [Act.put, List.setIfInBounds_toArray, List.set_cons_zero, List.set_cons_succ, List.getElem_toArray, List.getElem_cons_zero, List.getElem_cons_succ]
  refine wpAnyH_switch (S2 := (fun w' => (Blk w' B1 26 [.int .u32 n, .int .u32 a, .int .u64 p, .int .u64 x0, .int .u64 x1, .int .u64 x2, .int .u64 x3, .int .u64 x4, .int .u64 x5] ∧ Blk w' B2 26 [.int .u32 n2, .int .u32 c2, .int .u64 p2, .int .u64 y0, .int .u64 y1, .int .u64 y2, .int .u64 y3, .int .u64 y4, .int .u64 y5] ∧ Blk w' B3 26 [.int .u32 n2, .int .u32 c2, .int .u64 p2, .int .u64 y0, .int .u64 y1, .int .u64 y2, .int .u64 y3, .int .u64 y4, .int .u64 y5]) ∧ Bs w' a2 64 ex)) (fun _ h => h.1) ?_
  replace hHeld : ((fun w' => (Blk w' B1 26 [.int .u32 n, .int .u32 a, .int .u64 p, .int .u64 x0, .int .u64 x1, .int .u64 x2, .int .u64 x3, .int .u64 x4, .int .u64 x5] ∧ Blk w' B2 26 [.int .u32 n2, .int .u32 c2, .int .u64 p2, .int .u64 y0, .int .u64 y1, .int .u64 y2, .int .u64 y3, .int .u64 y4, .int .u64 y5] ∧ Blk w' B3 26 [.int .u32 n2, .int .u32 c2, .int .u64 p2, .int .u64 y0, .int .u64 y1, .int .u64 y2, .int .u64 y3, .int .u64 y4, .int .u64 y5]) ∧ Bs w' a2 64 ex)) _ := ⟨hHeld, bs2⟩
  refine wpAnyH_take (i := 4) (v := ?_) rfl (by kernel_rfl) (by kernel_rfl) (by kernel_rfl) (fun _ _ _ h => h) (Or.inl ⟨by rfl, ?_⟩) hHeld ?_
  rotate_left
  · (intro w hSw; (try dsimp only at hSw); have cx := run_text hSw.2 cap2; go_simp; try with_reducible rfl)
  try simp only [Act.put, List.setIfInBounds_toArray, List.set_cons_zero, List.set_cons_succ, List.getElem_toArray, List.getElem_cons_zero, List.getElem_cons_succ]
  refine wpAnyH_ready (rs := [6]) (by kernel_rfl) (by simp) ?_
  refine AllReadyH.cons rfl (fun K hK => ?_) AllReadyH.nil
  go_simp
  refine (HR.out _).mono ?_
  rintro e w3 ⟨hb3, v3, rfl, ho3⟩
  obtain ⟨a3, cap3, rfl, bs3, -, -⟩ := owns_bs ho3 BX.out
  go_wp2_with fail
  refine hK.out _ _ (⟨⟨hHeld.1.1.over hb3, hHeld.1.2.1.over hb3, hHeld.1.2.2.over hb3⟩, hHeld.2.below hb3⟩) (fun hHeld => ?_)
  clear hK K
  try simp only [Act.put, List.setIfInBounds_toArray, List.set_cons_zero, List.set_cons_succ, List.getElem_toArray, List.getElem_cons_zero, List.getElem_cons_succ]
  refine wpAnyH_switch (S2 := (fun w' => ((Blk w' B1 26 [.int .u32 n, .int .u32 a, .int .u64 p, .int .u64 x0, .int .u64 x1, .int .u64 x2, .int .u64 x3, .int .u64 x4, .int .u64 x5] ∧ Blk w' B2 26 [.int .u32 n2, .int .u32 c2, .int .u64 p2, .int .u64 y0, .int .u64 y1, .int .u64 y2, .int .u64 y3, .int .u64 y4, .int .u64 y5] ∧ Blk w' B3 26 [.int .u32 n2, .int .u32 c2, .int .u64 p2, .int .u64 y0, .int .u64 y1, .int .u64 y2, .int .u64 y3, .int .u64 y4, .int .u64 y5]) ∧ Bs w' a2 64 ex) ∧ Bs w' a3 64 ex)) (fun _ h => h.1) ?_
  replace hHeld : ((fun w' => ((Blk w' B1 26 [.int .u32 n, .int .u32 a, .int .u64 p, .int .u64 x0, .int .u64 x1, .int .u64 x2, .int .u64 x3, .int .u64 x4, .int .u64 x5] ∧ Blk w' B2 26 [.int .u32 n2, .int .u32 c2, .int .u64 p2, .int .u64 y0, .int .u64 y1, .int .u64 y2, .int .u64 y3, .int .u64 y4, .int .u64 y5] ∧ Blk w' B3 26 [.int .u32 n2, .int .u32 c2, .int .u64 p2, .int .u64 y0, .int .u64 y1, .int .u64 y2, .int .u64 y3, .int .u64 y4, .int .u64 y5]) ∧ Bs w' a2 64 ex) ∧ Bs w' a3 64 ex)) _ := ⟨hHeld, bs3⟩
  refine wpAnyH_take (i := 7) (v := ?_) rfl (by kernel_rfl) (by kernel_rfl) (by kernel_rfl) (fun _ _ _ h => h) (Or.inl ⟨by rfl, ?_⟩) hHeld ?_
  rotate_left
  · (intro w hSw; (try dsimp only at hSw); have cx := run_text hSw.2 cap3; go_simp; try with_reducible rfl)
  try simp only [Act.put, List.setIfInBounds_toArray, List.set_cons_zero, List.set_cons_succ, List.getElem_toArray, List.getElem_cons_zero, List.getElem_cons_succ]
  refine wpAnyH_take (i := 8) (v := ?_) rfl (by kernel_rfl) (by kernel_rfl) (by kernel_rfl) (fun _ _ _ h => h) (Or.inl ⟨by rfl, ?_⟩) hHeld ?_
  rotate_left
  · (intro w hSw; (try dsimp only at hSw); go_simp; try with_reducible rfl)
  try simp only [Act.put, List.setIfInBounds_toArray, List.set_cons_zero, List.set_cons_succ, List.getElem_toArray, List.getElem_cons_zero, List.getElem_cons_succ]
  refine wpAnyH_take (i := 9) (v := ?_) rfl (by kernel_rfl) (by kernel_rfl) (by kernel_rfl) (fun _ _ _ h => h) (Or.inl ⟨by rfl, ?_⟩) hHeld ?_
  rotate_left
  · (intro w hSw; (try dsimp only at hSw); go_simp; try with_reducible rfl)
  try simp only [Act.put, List.setIfInBounds_toArray, List.set_cons_zero, List.set_cons_succ, List.getElem_toArray, List.getElem_cons_zero, List.getElem_cons_succ]
  refine wpAnyH_take (i := 10) (v := ?_) rfl (by kernel_rfl) (by kernel_rfl) (by kernel_rfl) (fun _ _ _ h => h) (Or.inl ⟨by rfl, ?_⟩) hHeld ?_
  rotate_left
  · (intro w hSw; (try dsimp only at hSw); go_simp; try with_reducible rfl)
  try simp only [Act.put, List.setIfInBounds_toArray, List.set_cons_zero, List.set_cons_succ, List.getElem_toArray, List.getElem_cons_zero, List.getElem_cons_succ]
  refine wpAnyH_take (i := 11) (v := ?_) rfl (by kernel_rfl) (by kernel_rfl) (by kernel_rfl) (fun _ _ _ h => h) (Or.inl ⟨by rfl, ?_⟩) hHeld ?_
  rotate_left
  · (intro w hSw; (try dsimp only at hSw); have s0 := (hSw.1.1.2.1).cell 0; have s1 := (hSw.1.1.2.1).cell 1; have s2 := (hSw.1.1.2.1).cell 2; have s3 := (hSw.1.1.2.1).cell 3; have s4 := (hSw.1.1.2.1).cell 4; have s5 := (hSw.1.1.2.1).cell 5; have s6 := (hSw.1.1.2.1).cell 6; have s7 := (hSw.1.1.2.1).cell 7; have s8 := (hSw.1.1.2.1).cell 8; go_simp; try with_reducible rfl)
  try simp only [Act.put, List.setIfInBounds_toArray, List.set_cons_zero, List.set_cons_succ, List.getElem_toArray, List.getElem_cons_zero, List.getElem_cons_succ]
  refine wpAnyH_take (i := 12) (v := ?_) rfl (by kernel_rfl) (by kernel_rfl) (by kernel_rfl) (fun _ _ _ h => h) (Or.inl ⟨by rfl, ?_⟩) hHeld ?_
  rotate_left
  · (intro w hSw; (try dsimp only at hSw); have s0 := (hSw.1.1.2.2).cell 0; have s1 := (hSw.1.1.2.2).cell 1; have s2 := (hSw.1.1.2.2).cell 2; have s3 := (hSw.1.1.2.2).cell 3; have s4 := (hSw.1.1.2.2).cell 4; have s5 := (hSw.1.1.2.2).cell 5; have s6 := (hSw.1.1.2.2).cell 6; have s7 := (hSw.1.1.2.2).cell 7; have s8 := (hSw.1.1.2.2).cell 8; go_simp; try with_reducible rfl)
  try simp only [Act.put, List.setIfInBounds_toArray, List.set_cons_zero, List.set_cons_succ, List.getElem_toArray, List.getElem_cons_zero, List.getElem_cons_succ]
  refine wpAnyH_take (i := 13) (v := ?_) rfl (by kernel_rfl) (by kernel_rfl) (by kernel_rfl) (fun _ _ _ h => h) (Or.inl ⟨by rfl, ?_⟩) hHeld ?_
  rotate_left
  · (intro w hSw; (try dsimp only at hSw); go_simp; try with_reducible rfl)
  try simp only [Act.put, List.setIfInBounds_toArray, List.set_cons_zero, List.set_cons_succ, List.getElem_toArray, List.getElem_cons_zero, List.getElem_cons_succ]
  refine wpAnyH_take (i := 14) (v := ?_) rfl (by kernel_rfl) (by kernel_rfl) (by kernel_rfl) (fun _ _ _ h => h) (Or.inl ⟨by rfl, ?_⟩) hHeld ?_
  rotate_left
  · (intro w hSw; (try dsimp only at hSw); go_simp; try with_reducible rfl)
  try simp only [Act.put, List.setIfInBounds_toArray, List.set_cons_zero, List.set_cons_succ, List.getElem_toArray, List.getElem_cons_zero, List.getElem_cons_succ]
  refine wpAnyH_take (i := 15) (v := ?_) rfl (by kernel_rfl) (by kernel_rfl) (by kernel_rfl) (fun _ _ _ h => h) (Or.inl ⟨by rfl, ?_⟩) hHeld ?_
  rotate_left
  · (intro w hSw; (try dsimp only at hSw); go_simp; try with_reducible rfl)
  try simp only [Act.put, List.setIfInBounds_toArray, List.set_cons_zero, List.set_cons_succ, List.getElem_toArray, List.getElem_cons_zero, List.getElem_cons_succ]
  refine wpAnyH_take (i := 16) (v := ?_) rfl (by kernel_rfl) (by kernel_rfl) (by kernel_rfl) (fun _ _ _ h => h) (Or.inl ⟨by rfl, ?_⟩) hHeld ?_
  rotate_left
  · (intro w hSw; (try dsimp only at hSw); go_simp; try with_reducible rfl)
  try simp only [Act.put, List.setIfInBounds_toArray, List.set_cons_zero, List.set_cons_succ, List.getElem_toArray, List.getElem_cons_zero, List.getElem_cons_succ]
  refine wpAnyH_take (i := 17) (v := ?_) rfl (by kernel_rfl) (by kernel_rfl) (by kernel_rfl) (fun _ _ _ h => h) (Or.inl ⟨by rfl, ?_⟩) hHeld ?_
  rotate_left
  · (intro w hSw; (try dsimp only at hSw); go_simp; try with_reducible rfl)
  try simp only [Act.put, List.setIfInBounds_toArray, List.set_cons_zero, List.set_cons_succ, List.getElem_toArray, List.getElem_cons_zero, List.getElem_cons_succ]
  refine wpAnyH_take (i := 18) (v := ?_) rfl (by kernel_rfl) (by kernel_rfl) (by kernel_rfl) (fun _ _ _ h => h) (Or.inl ⟨by rfl, ?_⟩) hHeld ?_
  rotate_left
  · (intro w hSw; (try dsimp only at hSw); go_simp; try with_reducible rfl)
  try simp only [Act.put, List.setIfInBounds_toArray, List.set_cons_zero, List.set_cons_succ, List.getElem_toArray, List.getElem_cons_zero, List.getElem_cons_succ]
  refine wpAnyH_take (i := 19) (v := ?_) rfl (by kernel_rfl) (by kernel_rfl) (by kernel_rfl) (fun _ _ _ h => h) (Or.inl ⟨by rfl, ?_⟩) hHeld ?_
  rotate_left
  · (intro w hSw; (try dsimp only at hSw); go_simp; try with_reducible rfl)
  try simp only [Act.put, List.setIfInBounds_toArray, List.set_cons_zero, List.set_cons_succ, List.getElem_toArray, List.getElem_cons_zero, List.getElem_cons_succ]
  refine wpAnyH_take (i := 20) (v := ?_) rfl (by kernel_rfl) (by kernel_rfl) (by kernel_rfl) (fun _ _ _ h => h) (Or.inl ⟨by rfl, ?_⟩) hHeld ?_
  rotate_left
  · (intro w hSw; (try dsimp only at hSw); go_simp; try with_reducible rfl)
  try simp only [Act.put, List.setIfInBounds_toArray, List.set_cons_zero, List.set_cons_succ, List.getElem_toArray, List.getElem_cons_zero, List.getElem_cons_succ]
  refine wpAnyH_done (by kernel_rfl) ?_ _
  go_wp2_with fail
  go_ret
  have z1 : B1 ≤ V.drew.heap.size := by rw [← hB1]; exact b6.size
  have c1 := b6.drew.trans (hb2.mono z1)
  have z2 : B1 ≤ w2.heap.size := by rw [← hB1]; exact c1.size
  exact ⟨by first | rfl | simp, c1.trans (hb3.mono z2)⟩

end Go.Proofs.Ytkfpcdnkpafphaa
