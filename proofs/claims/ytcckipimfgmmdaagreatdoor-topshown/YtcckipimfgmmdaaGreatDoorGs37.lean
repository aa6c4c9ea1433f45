/-
  KTstB.
-/
import Derived.Test.YtcckipimfgmmdaaGreatDoorGs34
import Derived.Test.YtcckipimfgmmdaaGreatDoorGs0
set_option maxHeartbeats 4000000
namespace Go.Proofs.YtcckipimfgmmdaaGreatDoor
open V (below_new)
open Go.RowKit
set_option linter.unusedSimpArgs false in
set_option maxRecDepth 8000 in
theorem test_Btrue (al ne : Bool) (g o m v : Int) (rest : Nat) (w : World) (h0 : 0 <= g) (h5 : g < 6) (hm : V.U64 m) (hv : V.U64 v) (hr : rest <= 200) (hl : V.lo m ≠ 0) (hh : V.hi m = 0) :
  Calls Tryz.prog 168 #[.int .i64 g, .agg #[.bool al, .bool ne, .bool true, .int .i64 o, .int .u64 m, .int .u64 v], .int .i64 rest] w fun e w' => Tld w (testI g ⟨al, ne, true, o, m, v⟩ rest) e w' := by
 have HP : Hid (∀ W, Calls Tryz.prog 189 #[.int .i64 g] W fun e w' => e = .returned (.tuple #[.int .u32 (16 + 8 * g), .int .u32 (16 + 8 * g + 4), .int .i64 0]) /\ Below W.heap.size W w') := place_in g h0 h5
 have HHm : Hid (∀ W, Calls Tryz.prog 176 #[.int .u64 m] W fun e w' => e = .returned (.tuple #[.int .u32 (V.lo m), .int .u32 (V.hi m)]) /\ w' = W) := fun W => V.halves_any m W hm
 have HHv : Hid (∀ W, Calls Tryz.prog 176 #[.int .u64 v] W fun e w' => e = .returned (.tuple #[.int .u32 (V.lo v), .int .u32 (V.hi v)]) /\ w' = W) := fun W => V.halves_any v W hv
 have HWd : Hid (∀ p m W, Calls Tryz.prog 190 #[.int .u32 p, .int .u32 m] W fun e w' => Tld W (wordI p m) e w') := word_any
 have HJ : Hid (∀ c k t f W, 0 <= t /\ t <= 255 -> 0 <= f /\ f <= 255 -> Calls Tryz.prog 152 #[.int .u16 c, .int .u32 k, .int .i64 t, .int .i64 f] W fun e w' => e = .returned (.agg (cI ⟨c, t, f, k⟩)) /\ Below W.heap.size W w') := jump_any
 have HB0 : Hid (Below w.heap.size w (w.alloc (Obj.cells #[.bool al, .bool ne, .bool true, .int .i64 o, .int .u64 m, .int .u64 v] 239))) := below_new w _
 have HK : Hid (P.Blk (w.alloc (Obj.cells #[.bool al, .bool ne, .bool true, .int .i64 o, .int .u64 m, .int .u64 v] 239)) w.heap.size 239 [.bool al, .bool ne, .bool true, .int .i64 o, .int .u64 m, .int .u64 v]) := P.blk_new w _ _
 have HX : Hid (∀ W, Below (w.alloc (Obj.cells #[.bool al, .bool ne, .bool true, .int .i64 o, .int .u64 m, .int .u64 v] 239)).heap.size (w.alloc (Obj.cells #[.bool al, .bool ne, .bool true, .int .i64 o, .int .u64 m, .int .u64 v] 239)) W -> W.cell? ⟨w.heap.size, 2, none⟩ = some (.bool true) /\ W.cell? ⟨w.heap.size, 3, none⟩ = some (.int .i64 o) /\ W.cell? ⟨w.heap.size, 4, none⟩ = some (.int .u64 m) /\ W.cell? ⟨w.heap.size, 5, none⟩ = some (.int .u64 v) /\ Below w.heap.size w W) := fun W hW => ⟨(HK.out.over hW).cell 2, (HK.out.over hW).cell 3, (HK.out.over hW).cell 4, (HK.out.over hW).cell 5, HB0.out.trans (hW.mono HB0.out.size)⟩
 have HC : Hid (∀ W, Calls Tryz.prog 192 #[.int .i64 o] W fun e w' => e = .returned (.int .u16 (codeI o)) /\ w' = W) := code_any o
 obtain ⟨L, hL⟩ : ∃ L, lowI g ⟨al, ne, true, o, m, v⟩ rest 0 = L := ⟨_, rfl⟩
 have HLl : Hid (L = wordI (16 + 8 * g) (V.lo m) ++ [⟨codeI o, rest, 0, V.lo v⟩]) := by unfold Hid; rw [<- hL]; rfl
 have hLn : 2 <= L.length /\ L.length <= 3 := by rw [<- hL]; exact low_len ..
 have HT : Hid (testI g ⟨al, ne, true, o, m, v⟩ rest = L) := by unfold Hid testI testY; dsimp only; rw [if_pos rfl, if_neg hl, if_pos hh, hL]
 have hwl : Hid ((wordI (16 + 8 * g + 4) (V.hi m)).length <= 2) := (word_len _ _).2
 have hwl2 : Hid ((wordI (16 + 8 * g) (V.lo m)).length <= 2) := (word_len _ _).2
 have el : (V.lo m == 0) = false := by simpa using hl
 have eh : (V.hi m == 0) = true := by simpa using hh
 clear h0 h5 hm hv hl hh hL
 generalize codeI o = cc at *
 generalize V.lo m = lm at *
 generalize V.hi m = hm at *
 generalize V.lo v = lv at *
 generalize V.hi v = hv at *
 rw [HT.out]
 unfold cI at HJ
 dsimp only at HJ
 go_enter Tryz.func168, Tryz.ntmps168
 go_upto_region 10 with (first
  | (go_at_call 189; refine (HP.out _).mono ?_; rintro e w1 ⟨rfl, b1⟩; obtain ⟨c2, c3, c4, c5, B1⟩ := HX.out _ b1)
  | (go_at_call 176; refine (HHm.out _).mono ?_; rintro e w2 ⟨rfl, hw2⟩; subst w2)
  | (go_at_call 176; refine (HHv.out _).mono ?_; rintro e w2 ⟨rfl, hw2⟩; subst w2)
  | (go_at_call 190; refine (HWd.out _ _ _).mono ?_; rintro e w3 ⟨v3, rfl, o3, b3⟩; have BX3 : Hid (Below (w.alloc (Obj.cells #[.bool al, .bool ne, .bool true, .int .i64 o, .int .u64 m, .int .u64 v] 239)).heap.size (w.alloc (Obj.cells #[.bool al, .bool ne, .bool true, .int .i64 o, .int .u64 m, .int .u64 v] 239)) w3.drew) := (b1.trans (b3.mono b1.size)).drew; have O3 : Hid (w3.drew.ownsRow w.heap.size 60 4 v3 (wordI (16 + 8 * g + 4) hm).length (V.cellsI (wordI (16 + 8 * g + 4) hm))) := (P.owns_lower o3 B1.size).drew; clear o3))
 obtain ⟨-, z3, -, -, BZ⟩ := HX.out _ BX3.out
 refine wp_region_held_drew (S := (fun w' => w'.cell? ⟨w.heap.size, 3, none⟩ = some (.int .i64 o))) (by kernel_rfl) (z3) (fun hHeld => ?_)
 simp only [List.size_toArray, List.length_cons, List.length_nil, Nat.reduceAdd]
 generalize w3.drew = Z at *
 refine tk 0 ?_ hHeld ?_ ?_
 rotate_left
 ·(intro w hSw; (try dsimp only at hSw); have s0 := hSw; go_simp; try with_reducible rfl)
 try simp only [Act.put, zA, zB, zC, zD, zE, zF]
 refine tk 1 ?_ hHeld ?_ ?_
 rotate_left
 ·(intro w hSw; (try dsimp only at hSw); have s0 := hSw; go_simp; try with_reducible rfl)
 try simp only [Act.put, zA, zB, zC, zD, zE, zF]
 refine tk 3 ?_ hHeld ?_ ?_
 rotate_left
 ·(intro w hSw; (try dsimp only at hSw); have s0 := hSw; go_simp; try with_reducible rfl)
 try simp only [Act.put, zA, zB, zC, zD, zE, zF]
 refine tk 4 ?_ hHeld ?_ ?_
 rotate_left
 ·(intro w hSw; (try dsimp only at hSw); have s0 := hSw; go_simp; try with_reducible rfl)
 try simp only [Act.put, zA, zB, zC, zD, zE, zF]
 refine tk 6 ?_ hHeld ?_ ?_
 rotate_left
 ·(intro w hSw; (try dsimp only at hSw); have s0 := hSw; go_simp; try with_reducible rfl)
 try simp only [Act.put, zA, zB, zC, zD, zE, zF]
 refine tk 7 ?_ hHeld ?_ ?_
 rotate_left
 ·(intro w hSw; (try dsimp only at hSw); have s0 := hSw; go_simp; try with_reducible rfl)
 try simp only [Act.put, zA, zB, zC, zD, zE, zF]
 refine tk 8 ?_ hHeld ?_ ?_
 rotate_left
 ·(intro w hSw; (try dsimp only at hSw); have s0 := hSw; go_simp; try with_reducible rfl)
 try simp only [Act.put, zA, zB, zC, zD, zE, zF]
 refine wpAnyH_ready (rs := [2]) (by kernel_rfl) (by simp) ?_
 refine AllReadyH.cons rfl (fun K hK => ?_) AllReadyH.nil
 go_simp
 refine (HWd.out _ _ _).mono ?_
 rintro e w4 ⟨v4, rfl, o4, b4⟩
 have BX4 := BX3.out.trans (b4.mono BX3.out.size)
 obtain ⟨-, z4, -, -, B4⟩ := HX.out w4 BX4
 have H4 := own_over O3.out b4
 have A4 := apart_late O3.out o4 (Nat.le_refl _)
 have o4x := o4
 replace o4 := P.owns_lower o4 BZ.size
 go_wp2_with fail
 refine hK.out _ _ (z4) (fun hHeld => ?_)
 clear hK K
 try simp only [Act.put, zA, zB, zC, zD, zE, zF]
 refine wpAnyH_ready (rs := [5]) (by kernel_rfl) (by simp) ?_
 refine AllReadyH.cons rfl (fun K hK => ?_) AllReadyH.nil
 go_simp
 refine (HC.out _).mono ?_
 rintro e w5 ⟨rfl, hw5⟩
 subst w5
 go_wp2_with fail
 refine hK.out _ _ (z4) (fun hHeld => ?_)
 clear hK K
 try simp only [Act.put, zA, zB, zC, zD, zE, zF]
 refine wpAnyH_ready (rs := [9]) (by kernel_rfl) (by simp) ?_
 refine AllReadyH.cons rfl (fun K hK => ?_) AllReadyH.nil
 go_simp
 refine (HJ.out _ _ _ _ _ (by omega) (by omega)).mono ?_
 rintro e w6 ⟨rfl, b6⟩
 have BX6 := BX4.trans (b6.mono BX4.size)
 obtain ⟨-, z6, -, -, B6⟩ := HX.out w6 BX6
 have H6 := own_over H4 b6
 have o6 := own_over o4 b6
 go_wp2_with fail
 refine hK.out _ _ (z6) (fun hHeld => ?_)
 clear hK K
 try simp only [Act.put, zA, zB, zC, zD, zE, zF]
 refine wpAnyH_ready (rs := [10]) (by kernel_rfl) (by simp) ?_
 refine AllReadyH.cons rfl (fun K hK => ?_) AllReadyH.nil
 go_simp
 have BX7 := BX6.alloc BX6.size (Obj.cells #[.int .u16 cc, .int .u8 rest, .int .u8 0, .int .u32 lv] 60)
 obtain ⟨-, z7, -, -, B7⟩ := HX.out _ BX7
 have H7 := H6.alloc (Obj.cells #[.int .u16 cc, .int .u8 rest, .int .u8 0, .int .u32 lv] 60)
 have o7 := o6.alloc (Obj.cells #[.int .u16 cc, .int .u8 rest, .int .u8 0, .int .u32 lv] 60)
 refine hK.out _ _ (z7) (fun hHeld => ?_)
 clear hK K
 try simp only [Act.put, zA, zB, zC, zD, zE, zF]
 refine wpAnyH_ready (rs := [11]) (by kernel_rfl) (by simp) ?_
 refine AllReadyH.cons rfl (fun K hK => ?_) AllReadyH.nil
 refine step_rows rfl (.tmp 59) (.tmp 67) rfl w.heap.size v4 _ (wordI (16 + 8 * g) lm) rfl o7 w.heap.size _ 1 [⟨cc, rest, 0, lv⟩] rfl (own_in w6 _ B6.size cc rest 0 lv _ rfl) (by have := hwl2.out; omega) B7.size ?_
 intro v8 w8 hG
 obtain ⟨H8, A8⟩ := hG.kept H7 (fun j hj e => A4 j e hj)
 have BX8 : Below (w.alloc (Obj.cells #[.bool al, .bool ne, .bool true, .int .i64 o, .int .u64 m, .int .u64 v] 239)).heap.size (w.alloc (Obj.cells #[.bool al, .bool ne, .bool true, .int .i64 o, .int .u64 m, .int .u64 v] 239)) w8 := BX7.grown hG.grown BX7.size (fun j hj => Nat.le_trans BX3.out.size (P.owns_block o4x j hj))
 obtain ⟨-, z8, -, -, B8⟩ := HX.out w8 BX8
 refine hK.out _ _ (z8) (fun hHeld => ?_)
 clear hK K
 try simp only [Act.put, zA, zB, zC, zD, zE, zF]
 refine tk 12 ?_ hHeld ?_ ?_
 rotate_left
 ·(intro w hSw; (try dsimp only at hSw); have s0 := hSw; go_simp; try with_reducible rfl)
 try simp only [Act.put, zA, zB, zC, zD, zE, zF]
 refine wpAnyH_done (by kernel_rfl) ?_ _
 have O8 : Hid (w8.ownsRow w.heap.size 60 4 v8 L.length (V.cellsI L)) := by unfold Hid; rw [HLl.out, List.length_append]; exact hG.own
 clear hG
 go_wp2_with fail
 go_ret
 exact ⟨_, rfl, O8.out, B8⟩
set_option linter.unusedSimpArgs false in
set_option maxRecDepth 8000 in
theorem test_Bfalse (al ne : Bool) (g o m v : Int) (rest : Nat) (w : World) (h0 : 0 <= g) (h5 : g < 6) (hm : V.U64 m) (hv : V.U64 v) (hr : rest <= 200) (hl : V.lo m ≠ 0) (hh : V.hi m = 0) :
  Calls Tryz.prog 168 #[.int .i64 g, .agg #[.bool al, .bool ne, .bool false, .int .i64 o, .int .u64 m, .int .u64 v], .int .i64 rest] w fun e w' => Tld w (testI g ⟨al, ne, false, o, m, v⟩ rest) e w' := by
 have HP : Hid (∀ W, Calls Tryz.prog 189 #[.int .i64 g] W fun e w' => e = .returned (.tuple #[.int .u32 (16 + 8 * g), .int .u32 (16 + 8 * g + 4), .int .i64 0]) /\ Below W.heap.size W w') := place_in g h0 h5
 have HHm : Hid (∀ W, Calls Tryz.prog 176 #[.int .u64 m] W fun e w' => e = .returned (.tuple #[.int .u32 (V.lo m), .int .u32 (V.hi m)]) /\ w' = W) := fun W => V.halves_any m W hm
 have HHv : Hid (∀ W, Calls Tryz.prog 176 #[.int .u64 v] W fun e w' => e = .returned (.tuple #[.int .u32 (V.lo v), .int .u32 (V.hi v)]) /\ w' = W) := fun W => V.halves_any v W hv
 have HWd : Hid (∀ p m W, Calls Tryz.prog 190 #[.int .u32 p, .int .u32 m] W fun e w' => Tld W (wordI p m) e w') := word_any
 have HJ : Hid (∀ c k t f W, 0 <= t /\ t <= 255 -> 0 <= f /\ f <= 255 -> Calls Tryz.prog 152 #[.int .u16 c, .int .u32 k, .int .i64 t, .int .i64 f] W fun e w' => e = .returned (.agg (cI ⟨c, t, f, k⟩)) /\ Below W.heap.size W w') := jump_any
 have HB0 : Hid (Below w.heap.size w (w.alloc (Obj.cells #[.bool al, .bool ne, .bool false, .int .i64 o, .int .u64 m, .int .u64 v] 239))) := below_new w _
 have HK : Hid (P.Blk (w.alloc (Obj.cells #[.bool al, .bool ne, .bool false, .int .i64 o, .int .u64 m, .int .u64 v] 239)) w.heap.size 239 [.bool al, .bool ne, .bool false, .int .i64 o, .int .u64 m, .int .u64 v]) := P.blk_new w _ _
 have HX : Hid (∀ W, Below (w.alloc (Obj.cells #[.bool al, .bool ne, .bool false, .int .i64 o, .int .u64 m, .int .u64 v] 239)).heap.size (w.alloc (Obj.cells #[.bool al, .bool ne, .bool false, .int .i64 o, .int .u64 m, .int .u64 v] 239)) W -> W.cell? ⟨w.heap.size, 2, none⟩ = some (.bool false) /\ W.cell? ⟨w.heap.size, 3, none⟩ = some (.int .i64 o) /\ W.cell? ⟨w.heap.size, 4, none⟩ = some (.int .u64 m) /\ W.cell? ⟨w.heap.size, 5, none⟩ = some (.int .u64 v) /\ Below w.heap.size w W) := fun W hW => ⟨(HK.out.over hW).cell 2, (HK.out.over hW).cell 3, (HK.out.over hW).cell 4, (HK.out.over hW).cell 5, HB0.out.trans (hW.mono HB0.out.size)⟩
 have HC : Hid (∀ W, Calls Tryz.prog 192 #[.int .i64 o] W fun e w' => e = .returned (.int .u16 (codeI o)) /\ w' = W) := code_any o
 obtain ⟨L, hL⟩ : ∃ L, lowI g ⟨al, ne, false, o, m, v⟩ 0 rest = L := ⟨_, rfl⟩
 have HLl : Hid (L = wordI (16 + 8 * g) (V.lo m) ++ [⟨codeI o, 0, rest, V.lo v⟩]) := by unfold Hid; rw [<- hL]; rfl
 have hLn : 2 <= L.length /\ L.length <= 3 := by rw [<- hL]; exact low_len ..
 have HT : Hid (testI g ⟨al, ne, false, o, m, v⟩ rest = L) := by unfold Hid testI testY; dsimp only; rw [if_neg (by decide), if_neg hl, if_pos hh, hL]
 have hwl : Hid ((wordI (16 + 8 * g + 4) (V.hi m)).length <= 2) := (word_len _ _).2
 have hwl2 : Hid ((wordI (16 + 8 * g) (V.lo m)).length <= 2) := (word_len _ _).2
 have el : (V.lo m == 0) = false := by simpa using hl
 have eh : (V.hi m == 0) = true := by simpa using hh
 clear h0 h5 hm hv hl hh hL
 generalize codeI o = cc at *
 generalize V.lo m = lm at *
 generalize V.hi m = hm at *
 generalize V.lo v = lv at *
 generalize V.hi v = hv at *
 rw [HT.out]
 unfold cI at HJ
 dsimp only at HJ
 go_enter Tryz.func168, Tryz.ntmps168
 go_upto_region 10 with (first
  | (go_at_call 189; refine (HP.out _).mono ?_; rintro e w1 ⟨rfl, b1⟩; obtain ⟨c2, c3, c4, c5, B1⟩ := HX.out _ b1)
  | (go_at_call 176; refine (HHm.out _).mono ?_; rintro e w2 ⟨rfl, hw2⟩; subst w2)
  | (go_at_call 176; refine (HHv.out _).mono ?_; rintro e w2 ⟨rfl, hw2⟩; subst w2)
  | (go_at_call 190; refine (HWd.out _ _ _).mono ?_; rintro e w3 ⟨v3, rfl, o3, b3⟩; have BX3 : Hid (Below (w.alloc (Obj.cells #[.bool al, .bool ne, .bool false, .int .i64 o, .int .u64 m, .int .u64 v] 239)).heap.size (w.alloc (Obj.cells #[.bool al, .bool ne, .bool false, .int .i64 o, .int .u64 m, .int .u64 v] 239)) w3.drew) := (b1.trans (b3.mono b1.size)).drew; have O3 : Hid (w3.drew.ownsRow w.heap.size 60 4 v3 (wordI (16 + 8 * g + 4) hm).length (V.cellsI (wordI (16 + 8 * g + 4) hm))) := (P.owns_lower o3 B1.size).drew; clear o3))
 obtain ⟨-, z3, -, -, BZ⟩ := HX.out _ BX3.out
 refine wp_region_held_drew (S := (fun w' => w'.cell? ⟨w.heap.size, 3, none⟩ = some (.int .i64 o))) (by kernel_rfl) (z3) (fun hHeld => ?_)
 simp only [List.size_toArray, List.length_cons, List.length_nil, Nat.reduceAdd]
 generalize w3.drew = Z at *
 refine tk 0 ?_ hHeld ?_ ?_
 rotate_left
 ·(intro w hSw; (try dsimp only at hSw); have s0 := hSw; go_simp; try with_reducible rfl)
 try simp only [Act.put, zA, zB, zC, zD, zE, zF]
 refine tk 1 ?_ hHeld ?_ ?_
 rotate_left
 ·(intro w hSw; (try dsimp only at hSw); have s0 := hSw; go_simp; try with_reducible rfl)
 try simp only [Act.put, zA, zB, zC, zD, zE, zF]
 refine tk 3 ?_ hHeld ?_ ?_
 rotate_left
 ·(intro w hSw; (try dsimp only at hSw); have s0 := hSw; go_simp; try with_reducible rfl)
 try simp only [Act.put, zA, zB, zC, zD, zE, zF]
 refine tk 4 ?_ hHeld ?_ ?_
 rotate_left
 ·(intro w hSw; (try dsimp only at hSw); have s0 := hSw; go_simp; try with_reducible rfl)
 try simp only [Act.put, zA, zB, zC, zD, zE, zF]
 refine tk 6 ?_ hHeld ?_ ?_
 rotate_left
 ·(intro w hSw; (try dsimp only at hSw); have s0 := hSw; go_simp; try with_reducible rfl)
 try simp only [Act.put, zA, zB, zC, zD, zE, zF]
 refine tk 7 ?_ hHeld ?_ ?_
 rotate_left
 ·(intro w hSw; (try dsimp only at hSw); have s0 := hSw; go_simp; try with_reducible rfl)
 try simp only [Act.put, zA, zB, zC, zD, zE, zF]
 refine tk 8 ?_ hHeld ?_ ?_
 rotate_left
 ·(intro w hSw; (try dsimp only at hSw); have s0 := hSw; go_simp; try with_reducible rfl)
 try simp only [Act.put, zA, zB, zC, zD, zE, zF]
 refine wpAnyH_ready (rs := [2]) (by kernel_rfl) (by simp) ?_
 refine AllReadyH.cons rfl (fun K hK => ?_) AllReadyH.nil
 go_simp
 refine (HWd.out _ _ _).mono ?_
 rintro e w4 ⟨v4, rfl, o4, b4⟩
 have BX4 := BX3.out.trans (b4.mono BX3.out.size)
 obtain ⟨-, z4, -, -, B4⟩ := HX.out w4 BX4
 have H4 := own_over O3.out b4
 have A4 := apart_late O3.out o4 (Nat.le_refl _)
 have o4x := o4
 replace o4 := P.owns_lower o4 BZ.size
 go_wp2_with fail
 refine hK.out _ _ (z4) (fun hHeld => ?_)
 clear hK K
 try simp only [Act.put, zA, zB, zC, zD, zE, zF]
 refine wpAnyH_ready (rs := [5]) (by kernel_rfl) (by simp) ?_
 refine AllReadyH.cons rfl (fun K hK => ?_) AllReadyH.nil
 go_simp
 refine (HC.out _).mono ?_
 rintro e w5 ⟨rfl, hw5⟩
 subst w5
 go_wp2_with fail
 refine hK.out _ _ (z4) (fun hHeld => ?_)
 clear hK K
 try simp only [Act.put, zA, zB, zC, zD, zE, zF]
 refine wpAnyH_ready (rs := [9]) (by kernel_rfl) (by simp) ?_
 refine AllReadyH.cons rfl (fun K hK => ?_) AllReadyH.nil
 go_simp
 refine (HJ.out _ _ _ _ _ (by omega) (by omega)).mono ?_
 rintro e w6 ⟨rfl, b6⟩
 have BX6 := BX4.trans (b6.mono BX4.size)
 obtain ⟨-, z6, -, -, B6⟩ := HX.out w6 BX6
 have H6 := own_over H4 b6
 have o6 := own_over o4 b6
 go_wp2_with fail
 refine hK.out _ _ (z6) (fun hHeld => ?_)
 clear hK K
 try simp only [Act.put, zA, zB, zC, zD, zE, zF]
 refine wpAnyH_ready (rs := [10]) (by kernel_rfl) (by simp) ?_
 refine AllReadyH.cons rfl (fun K hK => ?_) AllReadyH.nil
 go_simp
 have BX7 := BX6.alloc BX6.size (Obj.cells #[.int .u16 cc, .int .u8 0, .int .u8 rest, .int .u32 lv] 60)
 obtain ⟨-, z7, -, -, B7⟩ := HX.out _ BX7
 have H7 := H6.alloc (Obj.cells #[.int .u16 cc, .int .u8 0, .int .u8 rest, .int .u32 lv] 60)
 have o7 := o6.alloc (Obj.cells #[.int .u16 cc, .int .u8 0, .int .u8 rest, .int .u32 lv] 60)
 refine hK.out _ _ (z7) (fun hHeld => ?_)
 clear hK K
 try simp only [Act.put, zA, zB, zC, zD, zE, zF]
 refine wpAnyH_ready (rs := [11]) (by kernel_rfl) (by simp) ?_
 refine AllReadyH.cons rfl (fun K hK => ?_) AllReadyH.nil
 refine step_rows rfl (.tmp 59) (.tmp 67) rfl w.heap.size v4 _ (wordI (16 + 8 * g) lm) rfl o7 w.heap.size _ 1 [⟨cc, 0, rest, lv⟩] rfl (own_in w6 _ B6.size cc 0 rest lv _ rfl) (by have := hwl2.out; omega) B7.size ?_
 intro v8 w8 hG
 obtain ⟨H8, A8⟩ := hG.kept H7 (fun j hj e => A4 j e hj)
 have BX8 : Below (w.alloc (Obj.cells #[.bool al, .bool ne, .bool false, .int .i64 o, .int .u64 m, .int .u64 v] 239)).heap.size (w.alloc (Obj.cells #[.bool al, .bool ne, .bool false, .int .i64 o, .int .u64 m, .int .u64 v] 239)) w8 := BX7.grown hG.grown BX7.size (fun j hj => Nat.le_trans BX3.out.size (P.owns_block o4x j hj))
 obtain ⟨-, z8, -, -, B8⟩ := HX.out w8 BX8
 refine hK.out _ _ (z8) (fun hHeld => ?_)
 clear hK K
 try simp only [Act.put, zA, zB, zC, zD, zE, zF]
 refine tk 12 ?_ hHeld ?_ ?_
 rotate_left
 ·(intro w hSw; (try dsimp only at hSw); have s0 := hSw; go_simp; try with_reducible rfl)
 try simp only [Act.put, zA, zB, zC, zD, zE, zF]
 refine wpAnyH_done (by kernel_rfl) ?_ _
 have O8 : Hid (w8.ownsRow w.heap.size 60 4 v8 L.length (V.cellsI L)) := by unfold Hid; rw [HLl.out, List.length_append]; exact hG.own
 clear hG
 go_wp2_with fail
 go_ret
 exact ⟨_, rfl, O8.out, B8⟩
end Go.Proofs.YtcckipimfgmmdaaGreatDoor
