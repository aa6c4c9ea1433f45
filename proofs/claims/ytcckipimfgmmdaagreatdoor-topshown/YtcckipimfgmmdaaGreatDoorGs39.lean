/-
  KTstD.
-/
import Derived.Test.YtcckipimfgmmdaaGreatDoorGs34
import Derived.Test.YtcckipimfgmmdaaGreatDoorGs0
set_option maxHeartbeats 4000000
namespace Go.Proofs.YtcckipimfgmmdaaGreatDoor
open V (below_new)
open Go.RowKit
set_option linter.unusedSimpArgs false in
set_option maxRecDepth 8000 in
theorem test_Dtrue (al ne : Bool) (g o m v : Int) (rest : Nat) (w : World) (h0 : 0 <= g) (h5 : g < 6) (hm : V.U64 m) (hv : V.U64 v) (hr : rest <= 200) (hl : V.lo m ≠ 0) (hh : V.hi m ≠ 0) (ho : o ≠ 1) :
  Calls Tryz.prog 168 #[.int .i64 g, .agg #[.bool al, .bool ne, .bool true, .int .i64 o, .int .u64 m, .int .u64 v], .int .i64 rest] w fun e w' => Tld w (testI g ⟨al, ne, true, o, m, v⟩ rest) e w' := by
 have HP : Hid (∀ W, Calls Tryz.prog 189 #[.int .i64 g] W fun e w' => e = .returned (.tuple #[.int .u32 (16 + 8 * g), .int .u32 (16 + 8 * g + 4), .int .i64 0]) /\ Below W.heap.size W w') := place_in g h0 h5
 have HHm : Hid (∀ W, Calls Tryz.prog 176 #[.int .u64 m] W fun e w' => e = .returned (.tuple #[.int .u32 (V.lo m), .int .u32 (V.hi m)]) /\ w' = W) := fun W => V.halves_any m W hm
 have HHv : Hid (∀ W, Calls Tryz.prog 176 #[.int .u64 v] W fun e w' => e = .returned (.tuple #[.int .u32 (V.lo v), .int .u32 (V.hi v)]) /\ w' = W) := fun W => V.halves_any v W hv
 have HWd : Hid (∀ p m W, Calls Tryz.prog 190 #[.int .u32 p, .int .u32 m] W fun e w' => Tld W (wordI p m) e w') := word_any
 have HJ : Hid (∀ c k t f W, 0 <= t /\ t <= 255 -> 0 <= f /\ f <= 255 -> Calls Tryz.prog 152 #[.int .u16 c, .int .u32 k, .int .i64 t, .int .i64 f] W fun e w' => e = .returned (.agg (cI ⟨c, t, f, k⟩)) /\ Below W.heap.size W w') := jump_any
 have HB0 : Hid (Below w.heap.size w (w.alloc (Obj.cells #[.bool al, .bool ne, .bool true, .int .i64 o, .int .u64 m, .int .u64 v] 239))) := below_new w _
 have HK : Hid (P.Blk (w.alloc (Obj.cells #[.bool al, .bool ne, .bool true, .int .i64 o, .int .u64 m, .int .u64 v] 239)) w.heap.size 239 [.bool al, .bool ne, .bool true, .int .i64 o, .int .u64 m, .int .u64 v]) := P.blk_new w _ _
 have HX : Hid (∀ W, Below (w.alloc (Obj.cells #[.bool al, .bool ne, .bool true, .int .i64 o, .int .u64 m, .int .u64 v] 239)).heap.size (w.alloc (Obj.cells #[.bool al, .bool ne, .bool true, .int .i64 o, .int .u64 m, .int .u64 v] 239)) W -> W.cell? ⟨w.heap.size, 2, none⟩ = some (.bool true) /\ W.cell? ⟨w.heap.size, 3, none⟩ = some (.int .i64 o) /\ W.cell? ⟨w.heap.size, 4, none⟩ = some (.int .u64 m) /\ W.cell? ⟨w.heap.size, 5, none⟩ = some (.int .u64 v) /\ Below w.heap.size w W) := fun W hW => ⟨(HK.out.over hW).cell 2, (HK.out.over hW).cell 3, (HK.out.over hW).cell 4, (HK.out.over hW).cell 5, HB0.out.trans (hW.mono HB0.out.size)⟩
 have HC : Hid (∀ W, Calls Tryz.prog 192 #[.int .i64 o] W fun e w' => e = .returned (.int .u16 (codeI o)) /\ w' = W) := code_any o
 obtain ⟨L, hL⟩ : ∃ L, lowI g ⟨al, ne, true, o, m, v⟩ rest 0 = L := ⟨_, rfl⟩
 have HLl : Hid (L = wordI (16 + 8 * g) (V.lo m) ++ [⟨codeI o, rest, 0, V.lo v⟩]) := by unfold Hid; rw [<- hL]; rfl
 have hLn : 2 <= L.length /\ L.length <= 3 := by rw [<- hL]; exact low_len ..
 have HT : Hid (testI g ⟨al, ne, true, o, m, v⟩ rest = (wordI (16 + 8 * g + 4) (V.hi m) ++ ([⟨37, (1 + L.length + rest : Nat), 0, V.hi v⟩] ++ [⟨21, 0, (L.length + 0 : Nat), V.hi v⟩])) ++ L) := by unfold Hid testI testY highI; dsimp only; rw [if_pos rfl, if_neg hl, if_neg hh, hL, if_neg ho]
 have hwl : Hid ((wordI (16 + 8 * g + 4) (V.hi m)).length <= 2) := (word_len _ _).2
 have hwl2 : Hid ((wordI (16 + 8 * g) (V.lo m)).length <= 2) := (word_len _ _).2
 have el : (V.lo m == 0) = false := by simpa using hl
 have eh : (V.hi m == 0) = false := by simpa using hh
 have eo : (o == 1) = false := by simpa using ho
 clear h0 h5 hm hv hl hh hL ho
 generalize codeI o = cc at *
 generalize V.lo m = lm at *
 generalize V.hi m = hm at *
 generalize V.lo v = lv at *
 generalize V.hi v = hv at *
 rw [HT.out]
 obtain ⟨Z1, hZ1⟩ : ∃ Z1 : Int, ((L.length + 0 : Nat) : Int) = Z1 := ⟨_, rfl⟩
 have gZ1 : 0 <= Z1 /\ Z1 <= 255 := by omega
 have e1 : IntKind.i64.wrap ((L.length : Int) + (0 : Int)) = Z1 := by rw [IntKind.wrap_i64]; omega
 have eL : IntKind.i64.wrap (L.length : Int) = Z1 := by rw [IntKind.wrap_i64]; omega
 obtain ⟨Z2, hZ2⟩ : ∃ Z2 : Int, ((1 + L.length + rest : Nat) : Int) = Z2 := ⟨_, rfl⟩
 obtain ⟨Y1, hY1⟩ : ∃ Y1 : Int, ((1 + L.length : Nat) : Int) = Y1 := ⟨_, rfl⟩
 have gZ2 : 0 <= Z2 /\ Z2 <= 255 := by omega
 have e2 : IntKind.i64.wrap (1 + (L.length : Int)) = Y1 := by rw [IntKind.wrap_i64]; omega
 have e3 : IntKind.i64.wrap (Y1 + (rest : Int)) = Z2 := by rw [IntKind.wrap_i64]; omega
 rw [hZ1, hZ2]
 clear hZ1 hZ2 hY1
 unfold cI at HJ
 dsimp only at HJ
 go_enter Tryz.func168, Tryz.ntmps168
 go_upto_region 10 with (first
  | (go_at_call 189; refine (HP.out _).mono ?_; rintro e w1 ⟨rfl, b1⟩; obtain ⟨c2, c3, c4, c5, B1⟩ := HX.out _ b1)
  | (go_at_call 176; refine (HHm.out _).mono ?_; rintro e w2 ⟨rfl, hw2⟩; subst w2)
  | (go_at_call 176; refine (HHv.out _).mono ?_; rintro e w2 ⟨rfl, hw2⟩; subst w2)
  | (go_at_call 190; refine (HWd.out _ _ _).mono ?_; rintro e w3 ⟨v3, rfl, o3, b3⟩; have BX3 : Hid (Below (w.alloc (Obj.cells #[.bool al, .bool ne, .bool true, .int .i64 o, .int .u64 m, .int .u64 v] 239)).heap.size (w.alloc (Obj.cells #[.bool al, .bool ne, .bool true, .int .i64 o, .int .u64 m, .int .u64 v] 239)) w3.drew) := (b1.trans (b3.mono b1.size)).drew; have O3 : Hid (w3.drew.ownsRow w.heap.size 60 4 v3 (wordI (16 + 8 * g + 4) hm).length (V.cellsI (wordI (16 + 8 * g + 4) hm))) := (P.owns_lower o3 B1.size).drew; clear o3))
 obtain ⟨-, z3, -, -, BZ⟩ := HX.out _ BX3.out
 refine wp_region_held_drew (S := (fun w' => w'.cell? ⟨w.heap.size, 3, none⟩ = some (.int .i64 o))) (by kernel_rfl) (z3) (fun hHeld => ?_)
 simp only [List.size_toArray, List.length_cons, List.length_nil, Nat.reduceAdd]
 generalize w3.drew = Z at *
 refine tk 0 ?_ hHeld ?_ ?_
 rotate_left
 ·(intro w hSw; (try dsimp only at hSw); have s0 := hSw; go_simp; try with_reducible rfl)
 try simp only [Act.put, zA, zB, zC, zD, zE, zF]
 refine tk 1 ?_ hHeld ?_ ?_
 rotate_left
 ·(intro w hSw; (try dsimp only at hSw); have s0 := hSw; go_simp; try with_reducible rfl)
 try simp only [Act.put, zA, zB, zC, zD, zE, zF]
 refine tk 3 ?_ hHeld ?_ ?_
 rotate_left
 ·(intro w hSw; (try dsimp only at hSw); have s0 := hSw; go_simp; try with_reducible rfl)
 try simp only [Act.put, zA, zB, zC, zD, zE, zF]
 refine tk 4 ?_ hHeld ?_ ?_
 rotate_left
 ·(intro w hSw; (try dsimp only at hSw); have s0 := hSw; go_simp; try with_reducible rfl)
 try simp only [Act.put, zA, zB, zC, zD, zE, zF]
 refine tk 6 ?_ hHeld ?_ ?_
 rotate_left
 ·(intro w hSw; (try dsimp only at hSw); have s0 := hSw; go_simp; try with_reducible rfl)
 try simp only [Act.put, zA, zB, zC, zD, zE, zF]
 refine tk 7 ?_ hHeld ?_ ?_
 rotate_left
 ·(intro w hSw; (try dsimp only at hSw); have s0 := hSw; go_simp; try with_reducible rfl)
 try simp only [Act.put, zA, zB, zC, zD, zE, zF]
 refine tk 8 ?_ hHeld ?_ ?_
 rotate_left
 ·(intro w hSw; (try dsimp only at hSw); have s0 := hSw; go_simp; try with_reducible rfl)
 try simp only [Act.put, zA, zB, zC, zD, zE, zF]
 refine wpAnyH_ready (rs := [2]) (by kernel_rfl) (by simp) ?_
 refine AllReadyH.cons rfl (fun K hK => ?_) AllReadyH.nil
 go_simp
 refine (HWd.out _ _ _).mono ?_
 rintro e w4 ⟨v4, rfl, o4, b4⟩
 have BX4 := BX3.out.trans (b4.mono BX3.out.size)
 obtain ⟨-, z4, -, -, B4⟩ := HX.out w4 BX4
 have H4 := own_over O3.out b4
 have A4 := apart_late O3.out o4 (Nat.le_refl _)
 have o4x := o4
 replace o4 := P.owns_lower o4 BZ.size
 go_wp2_with fail
 refine hK.out _ _ (z4) (fun hHeld => ?_)
 clear hK K
 try simp only [Act.put, zA, zB, zC, zD, zE, zF]
 refine wpAnyH_ready (rs := [5]) (by kernel_rfl) (by simp) ?_
 refine AllReadyH.cons rfl (fun K hK => ?_) AllReadyH.nil
 go_simp
 refine (HC.out _).mono ?_
 rintro e w5 ⟨rfl, hw5⟩
 subst w5
 go_wp2_with fail
 refine hK.out _ _ (z4) (fun hHeld => ?_)
 clear hK K
 try simp only [Act.put, zA, zB, zC, zD, zE, zF]
 refine wpAnyH_ready (rs := [9]) (by kernel_rfl) (by simp) ?_
 refine AllReadyH.cons rfl (fun K hK => ?_) AllReadyH.nil
 go_simp
 refine (HJ.out _ _ _ _ _ (by omega) (by omega)).mono ?_
 rintro e w6 ⟨rfl, b6⟩
 have BX6 := BX4.trans (b6.mono BX4.size)
 obtain ⟨-, z6, -, -, B6⟩ := HX.out w6 BX6
 have H6 := own_over H4 b6
 have o6 := own_over o4 b6
 go_wp2_with fail
 refine hK.out _ _ (z6) (fun hHeld => ?_)
 clear hK K
 try simp only [Act.put, zA, zB, zC, zD, zE, zF]
 refine wpAnyH_ready (rs := [10]) (by kernel_rfl) (by simp) ?_
 refine AllReadyH.cons rfl (fun K hK => ?_) AllReadyH.nil
 go_simp
 have BX7 := BX6.alloc BX6.size (Obj.cells #[.int .u16 cc, .int .u8 rest, .int .u8 0, .int .u32 lv] 60)
 obtain ⟨-, z7, -, -, B7⟩ := HX.out _ BX7
 have H7 := H6.alloc (Obj.cells #[.int .u16 cc, .int .u8 rest, .int .u8 0, .int .u32 lv] 60)
 have o7 := o6.alloc (Obj.cells #[.int .u16 cc, .int .u8 rest, .int .u8 0, .int .u32 lv] 60)
 refine hK.out _ _ (z7) (fun hHeld => ?_)
 clear hK K
 try simp only [Act.put, zA, zB, zC, zD, zE, zF]
 refine wpAnyH_ready (rs := [11]) (by kernel_rfl) (by simp) ?_
 refine AllReadyH.cons rfl (fun K hK => ?_) AllReadyH.nil
 refine step_rows rfl (.tmp 59) (.tmp 67) rfl w.heap.size v4 _ (wordI (16 + 8 * g) lm) rfl o7 w.heap.size _ 1 [⟨cc, rest, 0, lv⟩] rfl (own_in w6 _ B6.size cc rest 0 lv _ rfl) (by have := hwl2.out; omega) B7.size ?_
 intro v8 w8 hG
 obtain ⟨H8, A8⟩ := hG.kept H7 (fun j hj e => A4 j e hj)
 have BX8 : Below (w.alloc (Obj.cells #[.bool al, .bool ne, .bool true, .int .i64 o, .int .u64 m, .int .u64 v] 239)).heap.size (w.alloc (Obj.cells #[.bool al, .bool ne, .bool true, .int .i64 o, .int .u64 m, .int .u64 v] 239)) w8 := BX7.grown hG.grown BX7.size (fun j hj => Nat.le_trans BX3.out.size (P.owns_block o4x j hj))
 obtain ⟨-, z8, -, -, B8⟩ := HX.out w8 BX8
 refine hK.out _ _ (z8) (fun hHeld => ?_)
 clear hK K
 try simp only [Act.put, zA, zB, zC, zD, zE, zF]
 refine tk 12 ?_ hHeld ?_ ?_
 rotate_left
 ·(intro w hSw; (try dsimp only at hSw); have s0 := hSw; go_simp; try with_reducible rfl)
 try simp only [Act.put, zA, zB, zC, zD, zE, zF]
 refine wpAnyH_done (by kernel_rfl) ?_ _
 have O8 : Hid (w8.ownsRow w.heap.size 60 4 v8 L.length (V.cellsI L)) := by unfold Hid; rw [HLl.out, List.length_append]; exact hG.own
 clear hG
 obtain ⟨a8, k8, rfl⟩ := own_slice O8.out
 have A9 : Apart v3 (.slice a8 L.length k8) := fun j hj e => A8 j e hj
 have c3 : w8.cell? ⟨w.heap.size, 3, none⟩ = some (.int .i64 o) := z8
 have B8h : Hid (Below w.heap.size w w8) := B8
 have H8h : Hid (w8.ownsRow w.heap.size 60 4 v3 (wordI (16 + 8 * g + 4) hm).length (V.cellsI (wordI (16 + 8 * g + 4) hm))) := H8
 have A9h : Hid (Apart v3 (.slice a8 L.length k8)) := A9
 clear z8 A8 H8 B8 A9 z3 z4 z6 z7 H4 H6 H7 o4 o4x o6 o7 B4 B6 B7 BX3 BX4 BX6 BX7 BX8 b4 b6 A4 b1 b3 c2 c4 c5 BZ B1 O3
 go_upto_region 15 with (first
  | (go_at_call 152; refine (HJ.out _ _ _ _ _ (by omega) (by omega)).mono ?_; rintro e w9 ⟨rfl, b9⟩; have H9 := own_over H8h.out b9; have O9 := own_over O8.out b9; have B9 := B8h.out.trans (b9.mono B8h.out.size))
  | (at_builtin; refine app_rows rfl (.tmp 75) (.tmp 83) rfl w.heap.size _ _ (wordI (16 + 8 * g + 4) hm) rfl (H9.alloc _) w.heap.size _ 1 [⟨37, Z2, 0, hv⟩] rfl (own_in w9 _ B9.size 37 Z2 0 hv _ rfl) (by have := hwl.out; omega) (by have := B9.size; simp; omega) ?_; intro vA wA hGA; go_frame))
 obtain ⟨OA, AA⟩ := hGA.kept (O9.alloc _) A9h.out
 have BAh : Hid (Below w.heap.size w wA) := hGA.below (H9.alloc _) (B9.alloc B9.size _) (by have := B9.size; simp; omega)
 have HAh : Hid (wA.ownsRow w.heap.size 60 4 vA ((wordI (16 + 8 * g + 4) hm).length + 1) (V.cellsI ((wordI (16 + 8 * g + 4) hm) ++ [⟨37, Z2, 0, hv⟩]))) := hGA.own
 have OAh : Hid (wA.ownsRow w.heap.size 60 4 (.slice a8 L.length k8) L.length (V.cellsI L)) := OA
 have AAh : Hid (Apart vA (.slice a8 L.length k8)) := AA
 clear hGA OA AA H9 O9 B9 b9 H8h O8 B8h A9h c3
 go_wp2_with (first
  | (go_at_call 152; refine (HJ.out _ _ _ _ _ (by omega) (by omega)).mono ?_; rintro e wj ⟨rfl, bj⟩; have Hj := own_over HAh.out bj; have Oj := own_over OAh.out bj; have Bj := BAh.out.trans (bj.mono BAh.out.size))
  | (at_builtin; refine app_rows rfl (.tmp 85) (.tmp 92) rfl w.heap.size _ _ ((wordI (16 + 8 * g + 4) hm) ++ [⟨37, Z2, 0, hv⟩]) rfl (Hj.alloc _) w.heap.size _ 1 [⟨21, 0, Z1, hv⟩] rfl (own_in wj _ Bj.size 21 0 Z1 hv _ rfl) (by have := hwl.out; omega) (by have := Bj.size; simp; omega) ?_; intro vk wk hGk; have Ok := (hGk.kept (Oj.alloc _) AAh.out).1; have Bk := hGk.below (Hj.alloc _) (Bj.alloc Bj.size _) (by have := Bj.size; simp; omega); go_frame)
  | (at_builtin; refine app_rows rfl (.tmp 94) (.tmp 95) rfl w.heap.size _ _ _ rfl hGk.own w.heap.size _ _ L rfl Ok (by have := hwl.out; omega) Bk.size ?_; intro vz wz hGz; go_frame))
 go_ret
 refine ⟨_, rfl, ?_, hGz.below hGk.own Bk Bk.size⟩
 have hz := hGz.own
 rw [List.append_assoc (wordI (16 + 8 * g + 4) hm)] at hz
 rw [List.length_append, List.length_append]
 exact hz
set_option linter.unusedSimpArgs false in
set_option maxRecDepth 8000 in
theorem test_Dfalse (al ne : Bool) (g o m v : Int) (rest : Nat) (w : World) (h0 : 0 <= g) (h5 : g < 6) (hm : V.U64 m) (hv : V.U64 v) (hr : rest <= 200) (hl : V.lo m ≠ 0) (hh : V.hi m ≠ 0) (ho : o ≠ 1) :
  Calls Tryz.prog 168 #[.int .i64 g, .agg #[.bool al, .bool ne, .bool false, .int .i64 o, .int .u64 m, .int .u64 v], .int .i64 rest] w fun e w' => Tld w (testI g ⟨al, ne, false, o, m, v⟩ rest) e w' := by
 have HP : Hid (∀ W, Calls Tryz.prog 189 #[.int .i64 g] W fun e w' => e = .returned (.tuple #[.int .u32 (16 + 8 * g), .int .u32 (16 + 8 * g + 4), .int .i64 0]) /\ Below W.heap.size W w') := place_in g h0 h5
 have HHm : Hid (∀ W, Calls Tryz.prog 176 #[.int .u64 m] W fun e w' => e = .returned (.tuple #[.int .u32 (V.lo m), .int .u32 (V.hi m)]) /\ w' = W) := fun W => V.halves_any m W hm
 have HHv : Hid (∀ W, Calls Tryz.prog 176 #[.int .u64 v] W fun e w' => e = .returned (.tuple #[.int .u32 (V.lo v), .int .u32 (V.hi v)]) /\ w' = W) := fun W => V.halves_any v W hv
 have HWd : Hid (∀ p m W, Calls Tryz.prog 190 #[.int .u32 p, .int .u32 m] W fun e w' => Tld W (wordI p m) e w') := word_any
 have HJ : Hid (∀ c k t f W, 0 <= t /\ t <= 255 -> 0 <= f /\ f <= 255 -> Calls Tryz.prog 152 #[.int .u16 c, .int .u32 k, .int .i64 t, .int .i64 f] W fun e w' => e = .returned (.agg (cI ⟨c, t, f, k⟩)) /\ Below W.heap.size W w') := jump_any
 have HB0 : Hid (Below w.heap.size w (w.alloc (Obj.cells #[.bool al, .bool ne, .bool false, .int .i64 o, .int .u64 m, .int .u64 v] 239))) := below_new w _
 have HK : Hid (P.Blk (w.alloc (Obj.cells #[.bool al, .bool ne, .bool false, .int .i64 o, .int .u64 m, .int .u64 v] 239)) w.heap.size 239 [.bool al, .bool ne, .bool false, .int .i64 o, .int .u64 m, .int .u64 v]) := P.blk_new w _ _
 have HX : Hid (∀ W, Below (w.alloc (Obj.cells #[.bool al, .bool ne, .bool false, .int .i64 o, .int .u64 m, .int .u64 v] 239)).heap.size (w.alloc (Obj.cells #[.bool al, .bool ne, .bool false, .int .i64 o, .int .u64 m, .int .u64 v] 239)) W -> W.cell? ⟨w.heap.size, 2, none⟩ = some (.bool false) /\ W.cell? ⟨w.heap.size, 3, none⟩ = some (.int .i64 o) /\ W.cell? ⟨w.heap.size, 4, none⟩ = some (.int .u64 m) /\ W.cell? ⟨w.heap.size, 5, none⟩ = some (.int .u64 v) /\ Below w.heap.size w W) := fun W hW => ⟨(HK.out.over hW).cell 2, (HK.out.over hW).cell 3, (HK.out.over hW).cell 4, (HK.out.over hW).cell 5, HB0.out.trans (hW.mono HB0.out.size)⟩
 have HC : Hid (∀ W, Calls Tryz.prog 192 #[.int .i64 o] W fun e w' => e = .returned (.int .u16 (codeI o)) /\ w' = W) := code_any o
 obtain ⟨L, hL⟩ : ∃ L, lowI g ⟨al, ne, false, o, m, v⟩ 0 rest = L := ⟨_, rfl⟩
 have HLl : Hid (L = wordI (16 + 8 * g) (V.lo m) ++ [⟨codeI o, 0, rest, V.lo v⟩]) := by unfold Hid; rw [<- hL]; rfl
 have hLn : 2 <= L.length /\ L.length <= 3 := by rw [<- hL]; exact low_len ..
 have HT : Hid (testI g ⟨al, ne, false, o, m, v⟩ rest = (wordI (16 + 8 * g + 4) (V.hi m) ++ ([⟨37, (1 + L.length + 0 : Nat), 0, V.hi v⟩] ++ [⟨21, 0, (L.length + rest : Nat), V.hi v⟩])) ++ L) := by unfold Hid testI testY highI; dsimp only; rw [if_neg (by decide), if_neg hl, if_neg hh, hL, if_neg ho]
 have hwl : Hid ((wordI (16 + 8 * g + 4) (V.hi m)).length <= 2) := (word_len _ _).2
 have hwl2 : Hid ((wordI (16 + 8 * g) (V.lo m)).length <= 2) := (word_len _ _).2
 have el : (V.lo m == 0) = false := by simpa using hl
 have eh : (V.hi m == 0) = false := by simpa using hh
 have eo : (o == 1) = false := by simpa using ho
 clear h0 h5 hm hv hl hh hL ho
 generalize codeI o = cc at *
 generalize V.lo m = lm at *
 generalize V.hi m = hm at *
 generalize V.lo v = lv at *
 generalize V.hi v = hv at *
 rw [HT.out]
 obtain ⟨Z1, hZ1⟩ : ∃ Z1 : Int, ((L.length + rest : Nat) : Int) = Z1 := ⟨_, rfl⟩
 have gZ1 : 0 <= Z1 /\ Z1 <= 255 := by omega
 have e1 : IntKind.i64.wrap ((L.length : Int) + (rest : Int)) = Z1 := by rw [IntKind.wrap_i64]; omega
 obtain ⟨Z2, hZ2⟩ : ∃ Z2 : Int, ((1 + L.length + 0 : Nat) : Int) = Z2 := ⟨_, rfl⟩
 obtain ⟨Y1, hY1⟩ : ∃ Y1 : Int, ((1 + L.length : Nat) : Int) = Y1 := ⟨_, rfl⟩
 have gZ2 : 0 <= Z2 /\ Z2 <= 255 := by omega
 have e2 : IntKind.i64.wrap (1 + (L.length : Int)) = Y1 := by rw [IntKind.wrap_i64]; omega
 have e3 : IntKind.i64.wrap (Y1 + (0 : Int)) = Z2 := by rw [IntKind.wrap_i64]; omega
 have e4 : IntKind.i64.wrap Y1 = Z2 := by rw [IntKind.wrap_i64]; omega
 rw [hZ1, hZ2]
 clear hZ1 hZ2 hY1
 unfold cI at HJ
 dsimp only at HJ
 go_enter Tryz.func168, Tryz.ntmps168
 go_upto_region 10 with (first
  | (go_at_call 189; refine (HP.out _).mono ?_; rintro e w1 ⟨rfl, b1⟩; obtain ⟨c2, c3, c4, c5, B1⟩ := HX.out _ b1)
  | (go_at_call 176; refine (HHm.out _).mono ?_; rintro e w2 ⟨rfl, hw2⟩; subst w2)
  | (go_at_call 176; refine (HHv.out _).mono ?_; rintro e w2 ⟨rfl, hw2⟩; subst w2)
  | (go_at_call 190; refine (HWd.out _ _ _).mono ?_; rintro e w3 ⟨v3, rfl, o3, b3⟩; have BX3 : Hid (Below (w.alloc (Obj.cells #[.bool al, .bool ne, .bool false, .int .i64 o, .int .u64 m, .int .u64 v] 239)).heap.size (w.alloc (Obj.cells #[.bool al, .bool ne, .bool false, .int .i64 o, .int .u64 m, .int .u64 v] 239)) w3.drew) := (b1.trans (b3.mono b1.size)).drew; have O3 : Hid (w3.drew.ownsRow w.heap.size 60 4 v3 (wordI (16 + 8 * g + 4) hm).length (V.cellsI (wordI (16 + 8 * g + 4) hm))) := (P.owns_lower o3 B1.size).drew; clear o3))
 obtain ⟨-, z3, -, -, BZ⟩ := HX.out _ BX3.out
 refine wp_region_held_drew (S := (fun w' => w'.cell? ⟨w.heap.size, 3, none⟩ = some (.int .i64 o))) (by kernel_rfl) (z3) (fun hHeld => ?_)
 simp only [List.size_toArray, List.length_cons, List.length_nil, Nat.reduceAdd]
 generalize w3.drew = Z at *
 refine tk 0 ?_ hHeld ?_ ?_
 rotate_left
 ·(intro w hSw; (try dsimp only at hSw); have s0 := hSw; go_simp; try with_reducible rfl)
 try simp only [Act.put, zA, zB, zC, zD, zE, zF]
 refine tk 1 ?_ hHeld ?_ ?_
 rotate_left
 ·(intro w hSw; (try dsimp only at hSw); have s0 := hSw; go_simp; try with_reducible rfl)
 try simp only [Act.put, zA, zB, zC, zD, zE, zF]
 refine tk 3 ?_ hHeld ?_ ?_
 rotate_left
 ·(intro w hSw; (try dsimp only at hSw); have s0 := hSw; go_simp; try with_reducible rfl)
 try simp only [Act.put, zA, zB, zC, zD, zE, zF]
 refine tk 4 ?_ hHeld ?_ ?_
 rotate_left
 ·(intro w hSw; (try dsimp only at hSw); have s0 := hSw; go_simp; try with_reducible rfl)
 try simp only [Act.put, zA, zB, zC, zD, zE, zF]
 refine tk 6 ?_ hHeld ?_ ?_
 rotate_left
 ·(intro w hSw; (try dsimp only at hSw); have s0 := hSw; go_simp; try with_reducible rfl)
 try simp only [Act.put, zA, zB, zC, zD, zE, zF]
 refine tk 7 ?_ hHeld ?_ ?_
 rotate_left
 ·(intro w hSw; (try dsimp only at hSw); have s0 := hSw; go_simp; try with_reducible rfl)
 try simp only [Act.put, zA, zB, zC, zD, zE, zF]
 refine tk 8 ?_ hHeld ?_ ?_
 rotate_left
 ·(intro w hSw; (try dsimp only at hSw); have s0 := hSw; go_simp; try with_reducible rfl)
 try simp only [Act.put, zA, zB, zC, zD, zE, zF]
 refine wpAnyH_ready (rs := [2]) (by kernel_rfl) (by simp) ?_
 refine AllReadyH.cons rfl (fun K hK => ?_) AllReadyH.nil
 go_simp
 refine (HWd.out _ _ _).mono ?_
 rintro e w4 ⟨v4, rfl, o4, b4⟩
 have BX4 := BX3.out.trans (b4.mono BX3.out.size)
 obtain ⟨-, z4, -, -, B4⟩ := HX.out w4 BX4
 have H4 := own_over O3.out b4
 have A4 := apart_late O3.out o4 (Nat.le_refl _)
 have o4x := o4
 replace o4 := P.owns_lower o4 BZ.size
 go_wp2_with fail
 refine hK.out _ _ (z4) (fun hHeld => ?_)
 clear hK K
 try simp only [Act.put, zA, zB, zC, zD, zE, zF]
 refine wpAnyH_ready (rs := [5]) (by kernel_rfl) (by simp) ?_
 refine AllReadyH.cons rfl (fun K hK => ?_) AllReadyH.nil
 go_simp
 refine (HC.out _).mono ?_
 rintro e w5 ⟨rfl, hw5⟩
 subst w5
 go_wp2_with fail
 refine hK.out _ _ (z4) (fun hHeld => ?_)
 clear hK K
 try simp only [Act.put, zA, zB, zC, zD, zE, zF]
 refine wpAnyH_ready (rs := [9]) (by kernel_rfl) (by simp) ?_
 refine AllReadyH.cons rfl (fun K hK => ?_) AllReadyH.nil
 go_simp
 refine (HJ.out _ _ _ _ _ (by omega) (by omega)).mono ?_
 rintro e w6 ⟨rfl, b6⟩
 have BX6 := BX4.trans (b6.mono BX4.size)
 obtain ⟨-, z6, -, -, B6⟩ := HX.out w6 BX6
 have H6 := own_over H4 b6
 have o6 := own_over o4 b6
 go_wp2_with fail
 refine hK.out _ _ (z6) (fun hHeld => ?_)
 clear hK K
 try simp only [Act.put, zA, zB, zC, zD, zE, zF]
 refine wpAnyH_ready (rs := [10]) (by kernel_rfl) (by simp) ?_
 refine AllReadyH.cons rfl (fun K hK => ?_) AllReadyH.nil
 go_simp
 have BX7 := BX6.alloc BX6.size (Obj.cells #[.int .u16 cc, .int .u8 0, .int .u8 rest, .int .u32 lv] 60)
 obtain ⟨-, z7, -, -, B7⟩ := HX.out _ BX7
 have H7 := H6.alloc (Obj.cells #[.int .u16 cc, .int .u8 0, .int .u8 rest, .int .u32 lv] 60)
 have o7 := o6.alloc (Obj.cells #[.int .u16 cc, .int .u8 0, .int .u8 rest, .int .u32 lv] 60)
 refine hK.out _ _ (z7) (fun hHeld => ?_)
 clear hK K
 try simp only [Act.put, zA, zB, zC, zD, zE, zF]
 refine wpAnyH_ready (rs := [11]) (by kernel_rfl) (by simp) ?_
 refine AllReadyH.cons rfl (fun K hK => ?_) AllReadyH.nil
 refine step_rows rfl (.tmp 59) (.tmp 67) rfl w.heap.size v4 _ (wordI (16 + 8 * g) lm) rfl o7 w.heap.size _ 1 [⟨cc, 0, rest, lv⟩] rfl (own_in w6 _ B6.size cc 0 rest lv _ rfl) (by have := hwl2.out; omega) B7.size ?_
 intro v8 w8 hG
 obtain ⟨H8, A8⟩ := hG.kept H7 (fun j hj e => A4 j e hj)
 have BX8 : Below (w.alloc (Obj.cells #[.bool al, .bool ne, .bool false, .int .i64 o, .int .u64 m, .int .u64 v] 239)).heap.size (w.alloc (Obj.cells #[.bool al, .bool ne, .bool false, .int .i64 o, .int .u64 m, .int .u64 v] 239)) w8 := BX7.grown hG.grown BX7.size (fun j hj => Nat.le_trans BX3.out.size (P.owns_block o4x j hj))
 obtain ⟨-, z8, -, -, B8⟩ := HX.out w8 BX8
 refine hK.out _ _ (z8) (fun hHeld => ?_)
 clear hK K
 try simp only [Act.put, zA, zB, zC, zD, zE, zF]
 refine tk 12 ?_ hHeld ?_ ?_
 rotate_left
 ·(intro w hSw; (try dsimp only at hSw); have s0 := hSw; go_simp; try with_reducible rfl)
 try simp only [Act.put, zA, zB, zC, zD, zE, zF]
 refine wpAnyH_done (by kernel_rfl) ?_ _
 have O8 : Hid (w8.ownsRow w.heap.size 60 4 v8 L.length (V.cellsI L)) := by unfold Hid; rw [HLl.out, List.length_append]; exact hG.own
 clear hG
 obtain ⟨a8, k8, rfl⟩ := own_slice O8.out
 have A9 : Apart v3 (.slice a8 L.length k8) := fun j hj e => A8 j e hj
 have c3 : w8.cell? ⟨w.heap.size, 3, none⟩ = some (.int .i64 o) := z8
 have B8h : Hid (Below w.heap.size w w8) := B8
 have H8h : Hid (w8.ownsRow w.heap.size 60 4 v3 (wordI (16 + 8 * g + 4) hm).length (V.cellsI (wordI (16 + 8 * g + 4) hm))) := H8
 have A9h : Hid (Apart v3 (.slice a8 L.length k8)) := A9
 clear z8 A8 H8 B8 A9 z3 z4 z6 z7 H4 H6 H7 o4 o4x o6 o7 B4 B6 B7 BX3 BX4 BX6 BX7 BX8 b4 b6 A4 b1 b3 c2 c4 c5 BZ B1 O3
 go_upto_region 15 with (first
  | (go_at_call 152; refine (HJ.out _ _ _ _ _ (by omega) (by omega)).mono ?_; rintro e w9 ⟨rfl, b9⟩; have H9 := own_over H8h.out b9; have O9 := own_over O8.out b9; have B9 := B8h.out.trans (b9.mono B8h.out.size))
  | (at_builtin; refine app_rows rfl (.tmp 75) (.tmp 83) rfl w.heap.size _ _ (wordI (16 + 8 * g + 4) hm) rfl (H9.alloc _) w.heap.size _ 1 [⟨37, Z2, 0, hv⟩] rfl (own_in w9 _ B9.size 37 Z2 0 hv _ rfl) (by have := hwl.out; omega) (by have := B9.size; simp; omega) ?_; intro vA wA hGA; go_frame))
 obtain ⟨OA, AA⟩ := hGA.kept (O9.alloc _) A9h.out
 have BAh : Hid (Below w.heap.size w wA) := hGA.below (H9.alloc _) (B9.alloc B9.size _) (by have := B9.size; simp; omega)
 have HAh : Hid (wA.ownsRow w.heap.size 60 4 vA ((wordI (16 + 8 * g + 4) hm).length + 1) (V.cellsI ((wordI (16 + 8 * g + 4) hm) ++ [⟨37, Z2, 0, hv⟩]))) := hGA.own
 have OAh : Hid (wA.ownsRow w.heap.size 60 4 (.slice a8 L.length k8) L.length (V.cellsI L)) := OA
 have AAh : Hid (Apart vA (.slice a8 L.length k8)) := AA
 clear hGA OA AA H9 O9 B9 b9 H8h O8 B8h A9h c3
 go_wp2_with (first
  | (go_at_call 152; refine (HJ.out _ _ _ _ _ (by omega) (by omega)).mono ?_; rintro e wj ⟨rfl, bj⟩; have Hj := own_over HAh.out bj; have Oj := own_over OAh.out bj; have Bj := BAh.out.trans (bj.mono BAh.out.size))
  | (at_builtin; refine app_rows rfl (.tmp 85) (.tmp 92) rfl w.heap.size _ _ ((wordI (16 + 8 * g + 4) hm) ++ [⟨37, Z2, 0, hv⟩]) rfl (Hj.alloc _) w.heap.size _ 1 [⟨21, 0, Z1, hv⟩] rfl (own_in wj _ Bj.size 21 0 Z1 hv _ rfl) (by have := hwl.out; omega) (by have := Bj.size; simp; omega) ?_; intro vk wk hGk; have Ok := (hGk.kept (Oj.alloc _) AAh.out).1; have Bk := hGk.below (Hj.alloc _) (Bj.alloc Bj.size _) (by have := Bj.size; simp; omega); go_frame)
  | (at_builtin; refine app_rows rfl (.tmp 94) (.tmp 95) rfl w.heap.size _ _ _ rfl hGk.own w.heap.size _ _ L rfl Ok (by have := hwl.out; omega) Bk.size ?_; intro vz wz hGz; go_frame))
 go_ret
 refine ⟨_, rfl, ?_, hGz.below hGk.own Bk Bk.size⟩
 have hz := hGz.own
 rw [List.append_assoc (wordI (16 + 8 * g + 4) hm)] at hz
 rw [List.length_append, List.length_append]
 exact hz
end Go.Proofs.YtcckipimfgmmdaaGreatDoor
