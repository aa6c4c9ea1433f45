/-
  The message of bytes, by the document: kinds 4, 5 and 7.
-/
import Derived.Test.YtpdndcmaaghnjaaMsDrS
namespace Go.Proofs.Ytpdndcmaaghnjaa
open Go.RowKit
open D (Da Blk)
open K (numOf textF)

set_option linter.unusedSimpArgs false in
set_option maxRecDepth 8000 in
set_option maxHeartbeats 4000000 in
theorem rd_full4 (b off len cap : Nat) (l : List Int) (w : World) (hb : K.Bs w (some ⟨b, off, none⟩) len l) (hcap : len ≤ cap) (hlen : len ≤ 2000) (hh : l.head? = some 4) (hn : 19 ≤ len) : Calls Try.prog 14 #[.slice (some ⟨b, off, none⟩) len cap] w fun e w' => e = .returned (.tuple #[(decM l).1.vl, .int .i64 (decM l).2]) ∧ Below w.heap.size w w' := by
  have hl := hb.1
  have HLen : Hid (len ≤ 2000) := hlen
  have hby : D.Byt l := hb.2.1
  have hg0 : l.getD 0 0 = 4 := by cases l with
    | nil => cases hh
    | cons x r => cases hh; rfl
  have Z0 := two_blk w zero15
  have c0 : (w.alloc (Obj.cells zero15.toArray 28)).cell? ⟨b, off, none⟩ = some (.int .u8 4) := by have := cell_at hb (room1 w (Obj.cells zero15.toArray 28)) 0 (by omega); rw [hg0] at this; exact this
  have h0 : ((len : Int) == 0) = false := beq_false_of_ne (by omega)
  have h1 : decide ((len : Int) < 19) = false := decide_eq_false (by omega)
  have hcut1 : ∀ W : World, (Instr.sliceAt 30 (.slice (some ⟨b, off, none⟩) len cap) (some (.int .i64 1)) none none).run Try.prog W = .ok (.slice (some ⟨b, off + 1, none⟩) (len - 1) (cap - 1)) W := cut_low1 b off len cap 1 (by omega) (by omega)
  have HT1 := take_at (cap := cap) hb 1 (by omega)
  have hcut9 : ∀ W : World, (Instr.sliceAt 30 (.slice (some ⟨b, off, none⟩) len cap) (some (.int .i64 9)) none none).run Try.prog W = .ok (.slice (some ⟨b, off + 9, none⟩) (len - 9) (cap - 9)) W := cut_low1 b off len cap 9 (by omega) (by omega)
  have HT9 := take_at (cap := cap) hb 9 (by omega)
  have ue := num_u8 (byt_sub hby 1 8) (by rw [List.length_take]; exact Nat.min_le_left _ _)
  have ui := num_u8 (byt_sub hby 9 8) (by rw [List.length_take]; exact Nat.min_le_left _ _)
  have hneed : need 4 = 19 := rfl
  have hsize : size 4 l = 19 := rfl
  have Hlong : Hid (size 4 l < len → decM l = (Mg.zero, 3)) := fun h => tell_long hh ⟨by decide, by decide⟩ hby (by rw [hneed, hl]; exact hn) (by rw [hl]; exact h)
  have Hjust : Hid (size 4 l = len → decM l = if rightB (rd 4 l) = true then (rd 4 l, 0) else (Mg.zero, 1)) := fun h => tell_just hh ⟨by decide, by decide⟩ hby (by rw [hneed, hl]; exact hn) (by rw [hl]; exact h)
  have hc17 := fun X hX => cell_at (X := X) hb hX 17 (by omega)
  have hc18 := fun X hX => cell_at (X := X) hb hX 18 (by omega)
  have hv : numOf ((l.drop 17).take 2) = l.getD 17 0 * 256 + l.getD 18 0 := two_at l 17 (by omega)
  have y17 := D.byt_get hby 17; have y18 := D.byt_get hby 18
  have hrd : rd 4 l = ⟨4, numOf ((l.drop 1).take 8), numOf ((l.drop 9).take 8), 0, (l.getD 17 0 * 256 + l.getD 18 0), Da.zero, []⟩ := by
    rw [← hv]
    rfl
  rw [hsize] at Hlong Hjust
  rw [hrd] at Hjust
  clear hrd hh hneed hsize hg0
  clear hv
  generalize decM l = dm at *
  generalize numOf ((l.drop 1).take 8) = EP at *
  generalize numOf ((l.drop 9).take 8) = ID at *
  generalize l.getD 17 0 = x17 at *
  generalize l.getD 18 0 = x18 at *
  have hm1 : IntKind.i64.wrap x17 = x17 := by rw [IntKind.wrap_i64]; omega
  have hm2 : IntKind.i64.wrap x18 = x18 := by rw [IntKind.wrap_i64]; omega
  have hm3 : IntKind.i64.wrap (x17 * 256) = x17 * 256 := by rw [IntKind.wrap_i64]; omega
  have hm4 : IntKind.i64.wrap (x17 * 256 + x18) = x17 * 256 + x18 := by rw [IntKind.wrap_i64]; omega
  clear y17 y18
  have HRt : Hid (∀ W : World, Calls Try.prog 12 #[.agg (Mg.mk 4 EP ID 0 (x17 * 256 + x18) Da.zero []).cells.toArray] W fun e w' => e = .returned (.bool (rightB (Mg.mk 4 EP ID 0 (x17 * 256 + x18) Da.zero []))) ∧ Below W.heap.size W w') := fun W => refRight_any (Mg.mk 4 EP ID 0 (x17 * 256 + x18) Da.zero []) W D.zero_ok (fun z hz => by cases hz)
  have HZq : Hid ((Try.prog.info? 28).map (·.size) = some (Mg.mk 4 EP ID 0 (x17 * 256 + x18) Da.zero []).cells.toArray.size) := Mg.size (Mg.mk 4 EP ID 0 (x17 * 256 + x18) Da.zero []) D.zero_ok
  have HSq : Hid (zero15.toArray.size = (Mg.mk 4 EP ID 0 (x17 * 256 + x18) Da.zero []).cells.toArray.size) := by unfold Hid; rw [List.size_toArray, List.size_toArray, Mg.cells_len _ D.zero_ok]; rfl
  have HT1h : Hid _ := HT1
  clear HT1 hb hby hl hlen ue ui
  clear hcap
  have Hn : Hid (19 ≤ len) := hn
  have hpos : 0 < len := by omega
  have Hi : Hid ((17 : Int) < (len : Int) ∧ (18 : Int) < (len : Int)) := ⟨by omega, by omega⟩
  clear hn
  generalize rightB (Mg.mk 4 EP ID 0 (x17 * 256 + x18) Da.zero []) = rb at *
  unfold zero15 at *
  go_enter Try.func14, Try.ntmps14
  go_upto_region 4 with (refine at_op (.store 28 (.tmp 4) (.tmp 23)) rfl ?_; refine wpList_store_r rfl 28 (.tmp 4) (.tmp 23) rfl (w.heap.size + 1) (Mg.mk 4 0 0 0 0 Da.zero []).cells.toArray rfl rfl 28 _ Z0.2.1 Try.size28 rfl (Mg.cells_one _) ?_; intro X0 hX0; have K0 : Mk w w.heap.size (w.heap.size + 1) zero15 (Mg.mk 4 0 0 0 0 Da.zero []) X0 := mk_first Z0 hX0; clear hX0 Z0 c0; have d0 : X0.cell? ⟨w.heap.size + 1, 0, none⟩ = some (.int .i64 4) := K0.dst.cell 0)
  go_upto_region 15 with fail
  go_wp2_with fail
  refine (HT1h.out _ K0.b).mono ?_
  rintro e Xa ⟨rfl, hXa⟩
  subst hXa
  go_wp2_with (refine at_op (.store 22 (.tmp 64) (.tmp 63)) rfl ?_; refine wpList_store_x rfl 22 (.tmp 64) (.tmp 63) rfl (w.heap.size + 1) 1 (.int .u64 EP) rfl rfl K0.dst (Mg.lt D.zero_ok 1 (by decide)) size22 rfl ?_; intro YK1 hY; have K1 := K0.epoch EP hY; clear hY; have dK1 : YK1.cell? ⟨w.heap.size + 1, 0, none⟩ = some (.int .i64 4) := K1.dst.cell 0)
  refine (HT9 _ K1.b).mono ?_
  rintro e Xb ⟨rfl, hXb⟩
  subst hXb
  go_upto_region 21 with (refine at_op (.store 22 (.tmp 75) (.tmp 74)) rfl ?_; refine wpList_store_x rfl 22 (.tmp 75) (.tmp 74) rfl (w.heap.size + 1) 2 (.int .u64 ID) rfl rfl K1.dst (Mg.lt D.zero_ok 2 (by decide)) size22 rfl ?_; intro YK2 hY; have K2 := K1.id ID hY; clear hY; have dK2 : YK2.cell? ⟨w.heap.size + 1, 0, none⟩ = some (.int .i64 4) := K2.dst.cell 0)
  refine wp_region_late (E := [11]) (S := (fun X => X.cell? ⟨b, off + 17, none⟩ = some (.int .u8 x17) ∧ X.cell? ⟨b, off + 18, none⟩ = some (.int .u8 x18) ∧ Mk w w.heap.size (w.heap.size + 1) zero15 (Mg.mk 4 EP ID 0 0 Da.zero []) X)) (by kernel_rfl) (⟨hc17 _ (K2.over (D.below_drewN _ 1)).b, hc18 _ (K2.over (D.below_drewN _ 1)).b, K2.over (D.below_drewN _ 1)⟩) (fun hHeld => ?_)
  simp only [List.size_toArray, List.length_cons, List.length_nil, Nat.reduceAdd]
  refine wpAnyL_take [1, 2, 3, 4, 9, 11] (i := 0) (v := ?_) (by kernel_rfl) (by kernel_rfl) (by kernel_rfl) rfl (by kernel_rfl) (by kernel_rfl) (by kernel_rfl) (fun _ _ _ h => h) (Or.inl ⟨by rfl, ?_⟩) hHeld ?_
  rotate_left
  · (intro w hSw; (try dsimp only at hSw); have s0 := hSw.1; have s1 := hSw.2.1; have t7 := Hi.out.1; have t8 := Hi.out.2; go_simp; try with_reducible rfl)
  try simp only [Act.put, List.setIfInBounds_toArray, List.set_cons_zero, List.set_cons_succ, List.getElem_toArray, List.getElem_cons_zero, List.getElem_cons_succ]
  refine wpAnyL_take [2, 3, 4, 9, 11] (i := 1) (v := ?_) (by kernel_rfl) (by kernel_rfl) (by kernel_rfl) rfl (by kernel_rfl) (by kernel_rfl) (by kernel_rfl) (fun _ _ _ h => h) (Or.inl ⟨by rfl, ?_⟩) hHeld ?_
  rotate_left
  · (intro w hSw; (try dsimp only at hSw); have s0 := hSw.1; have s1 := hSw.2.1; have t7 := Hi.out.1; have t8 := Hi.out.2; go_simp; try with_reducible rfl)
  try simp only [Act.put, List.setIfInBounds_toArray, List.set_cons_zero, List.set_cons_succ, List.getElem_toArray, List.getElem_cons_zero, List.getElem_cons_succ]
  refine wpAnyL_take [3, 4, 9, 11] (i := 2) (v := ?_) (by kernel_rfl) (by kernel_rfl) (by kernel_rfl) rfl (by kernel_rfl) (by kernel_rfl) (by kernel_rfl) (fun _ _ _ h => h) (Or.inl ⟨by rfl, ?_⟩) hHeld ?_
  rotate_left
  · (intro w hSw; (try dsimp only at hSw); have s0 := hSw.1; have s1 := hSw.2.1; have t7 := Hi.out.1; have t8 := Hi.out.2; go_simp; try with_reducible rfl)
  try simp only [Act.put, List.setIfInBounds_toArray, List.set_cons_zero, List.set_cons_succ, List.getElem_toArray, List.getElem_cons_zero, List.getElem_cons_succ]
  refine wpAnyL_take [4, 9, 11] (i := 3) (v := ?_) (by kernel_rfl) (by kernel_rfl) (by kernel_rfl) rfl (by kernel_rfl) (by kernel_rfl) (by kernel_rfl) (fun _ _ _ h => h) (Or.inl ⟨by rfl, ?_⟩) hHeld ?_
  rotate_left
  · (intro w hSw; (try dsimp only at hSw); have s0 := hSw.1; have s1 := hSw.2.1; have t7 := Hi.out.1; have t8 := Hi.out.2; go_simp; try with_reducible rfl)
  try simp only [Act.put, List.setIfInBounds_toArray, List.set_cons_zero, List.set_cons_succ, List.getElem_toArray, List.getElem_cons_zero, List.getElem_cons_succ]
  refine wpAnyL_take [9, 11] (i := 4) (v := ?_) (by kernel_rfl) (by kernel_rfl) (by kernel_rfl) rfl (by kernel_rfl) (by kernel_rfl) (by kernel_rfl) (fun _ _ _ h => h) (Or.inl ⟨by rfl, ?_⟩) hHeld ?_
  rotate_left
  · (intro w hSw; (try dsimp only at hSw); have s0 := hSw.1; have s1 := hSw.2.1; have t7 := Hi.out.1; have t8 := Hi.out.2; go_simp; try with_reducible rfl)
  try simp only [Act.put, List.setIfInBounds_toArray, List.set_cons_zero, List.set_cons_succ, List.getElem_toArray, List.getElem_cons_zero, List.getElem_cons_succ]
  refine wpAnyL_take [6, 7, 8, 9, 11] (i := 5) (v := ?_) (by kernel_rfl) (by kernel_rfl) (by kernel_rfl) rfl (by kernel_rfl) (by kernel_rfl) (by kernel_rfl) (fun _ _ _ h => h) (Or.inl ⟨by rfl, ?_⟩) hHeld ?_
  rotate_left
  · (intro w hSw; (try dsimp only at hSw); have s0 := hSw.1; have s1 := hSw.2.1; have t7 := Hi.out.1; have t8 := Hi.out.2; go_simp; try with_reducible rfl)
  try simp only [Act.put, List.setIfInBounds_toArray, List.set_cons_zero, List.set_cons_succ, List.getElem_toArray, List.getElem_cons_zero, List.getElem_cons_succ]
  refine wpAnyL_take [7, 8, 9, 11] (i := 6) (v := ?_) (by kernel_rfl) (by kernel_rfl) (by kernel_rfl) rfl (by kernel_rfl) (by kernel_rfl) (by kernel_rfl) (fun _ _ _ h => h) (Or.inl ⟨by rfl, ?_⟩) hHeld ?_
  rotate_left
  · (intro w hSw; (try dsimp only at hSw); have s0 := hSw.1; have s1 := hSw.2.1; have t7 := Hi.out.1; have t8 := Hi.out.2; go_simp; try with_reducible rfl)
  try simp only [Act.put, List.setIfInBounds_toArray, List.set_cons_zero, List.set_cons_succ, List.getElem_toArray, List.getElem_cons_zero, List.getElem_cons_succ]
  refine wpAnyL_take [8, 9, 11] (i := 7) (v := ?_) (by kernel_rfl) (by kernel_rfl) (by kernel_rfl) rfl (by kernel_rfl) (by kernel_rfl) (by kernel_rfl) (fun _ _ _ h => h) (Or.inl ⟨by rfl, ?_⟩) hHeld ?_
  rotate_left
  · (intro w hSw; (try dsimp only at hSw); have s0 := hSw.1; have s1 := hSw.2.1; have t7 := Hi.out.1; have t8 := Hi.out.2; go_simp; try with_reducible rfl)
  try simp only [Act.put, List.setIfInBounds_toArray, List.set_cons_zero, List.set_cons_succ, List.getElem_toArray, List.getElem_cons_zero, List.getElem_cons_succ]
  refine wpAnyL_take [9, 11] (i := 8) (v := ?_) (by kernel_rfl) (by kernel_rfl) (by kernel_rfl) rfl (by kernel_rfl) (by kernel_rfl) (by kernel_rfl) (fun _ _ _ h => h) (Or.inl ⟨by rfl, ?_⟩) hHeld ?_
  rotate_left
  · (intro w hSw; (try dsimp only at hSw); have s0 := hSw.1; have s1 := hSw.2.1; have t7 := Hi.out.1; have t8 := Hi.out.2; go_simp; try with_reducible rfl)
  try simp only [Act.put, List.setIfInBounds_toArray, List.set_cons_zero, List.set_cons_succ, List.getElem_toArray, List.getElem_cons_zero, List.getElem_cons_succ]
  refine wpAnyL_take [11] (i := 9) (v := ?_) (by kernel_rfl) (by kernel_rfl) (by kernel_rfl) rfl (by kernel_rfl) (by kernel_rfl) (by kernel_rfl) (fun _ _ _ h => h) (Or.inl ⟨by rfl, ?_⟩) hHeld ?_
  rotate_left
  · (intro w hSw; (try dsimp only at hSw); have s0 := hSw.1; have s1 := hSw.2.1; have t7 := Hi.out.1; have t8 := Hi.out.2; go_simp; try with_reducible rfl)
  try simp only [Act.put, List.setIfInBounds_toArray, List.set_cons_zero, List.set_cons_succ, List.getElem_toArray, List.getElem_cons_zero, List.getElem_cons_succ]
  refine wpAnyL_take [11] (i := 10) (v := ?_) (by kernel_rfl) (by kernel_rfl) (by kernel_rfl) rfl (by kernel_rfl) (by kernel_rfl) (by kernel_rfl) (fun _ _ _ h => h) (Or.inl ⟨by rfl, ?_⟩) hHeld ?_
  rotate_left
  · (intro w hSw; (try dsimp only at hSw); have s0 := hSw.1; have s1 := hSw.2.1; have t7 := Hi.out.1; have t8 := Hi.out.2; go_simp; try with_reducible rfl)
  try simp only [Act.put, List.setIfInBounds_toArray, List.set_cons_zero, List.set_cons_succ, List.getElem_toArray, List.getElem_cons_zero, List.getElem_cons_succ]
  refine wpAnyL_one (i := 11) (by kernel_rfl) rfl (fun K hK => ?_)
  rw [if_pos (by rfl)]
  refine wp_store_x 3 (.tmp 88) (.tmp 87) rfl (w.heap.size + 1) 4 (.int .i64 (x17 * 256 + x18)) rfl rfl hHeld.2.2.dst (Mg.lt D.zero_ok 4 (by decide)) size3 rfl ?_
  intro Y3 hY
  have K3 := hHeld.2.2.vals (x17 * 256 + x18) hY
  clear hY
  have dK3 : Y3.cell? ⟨w.heap.size + 1, 0, none⟩ = some (.int .i64 4) := K3.dst.cell 0
  refine hK.out _ _ (fun h => by cases h) ?_
  clear hK K
  try simp only [Act.put, List.setIfInBounds_toArray, List.set_cons_zero, List.set_cons_succ, List.getElem_toArray, List.getElem_cons_zero, List.getElem_cons_succ]
  refine wpAnyL_done (by kernel_rfl) ?_ _
  go_upto_region 31 with fail
  have KF : Mk w w.heap.size (w.heap.size + 1) zero15 (Mg.mk 4 EP ID 0 (x17 * 256 + x18) Da.zero []) _ := K3
  by_cases hlg : 19 < len
  · have he := Hlong.out hlg
    have hd : decide (19 < (len : Int)) = true := decide_eq_true (by omega)
    clear hlg Hlong Hjust
    go_wp2_with (refine at_op (.store 28 (.tmp 2) (.tmp 123)) rfl ?_; refine wpList_store_row rfl 28 (.tmp 2) (.tmp 123) rfl w.heap.size #[.int .i64 0, .int .u64 0, .int .u64 0, .int .i64 0, .int .i64 0, .int .u32 0, .int .u32 0, .int .u64 0, .int .u64 0, .int .u64 0, .int .u64 0, .int .u64 0, .int .u64 0, .int .u64 0, .string ⟨#[]⟩] rfl rfl 28 _ KF.src size15 rfl one15 ?_)
    exact bodyPost_ret (results_mg Try.results14 _ _ w.heap.size zero15 _ rfl (KF.src.row zero15.toArray) size15 rfl) rfl ⟨by first | rfl | (rw [he]; rfl), below_setRow KF.b (Nat.le_refl _) _⟩
  · have he := Hjust.out (by have := Hn.out; omega)
    have hd : decide (19 < (len : Int)) = false := decide_eq_false (by omega)
    clear hlg Hlong Hjust
    cases rb
    · go_wp2_with (first | (refine at_op (.load 28 (.tmp 4)) rfl ?_; refine wpList_load_row rfl 28 (.tmp 4) rfl (w.heap.size + 1) rfl 28 (Mg.mk 4 EP ID 0 (x17 * 256 + x18) Da.zero []).cells.toArray (0, 0) _ KF.dst Try.underlying28 rfl HZq.out ?_) | (go_at_call 12; refine (HRt.out _).mono ?_; rintro e Xg ⟨rfl, bg⟩; have KG := KF.over bg; clear KF) | (refine at_op (.store 28 (.tmp 2) (.tmp 127)) rfl ?_; refine wpList_store_row rfl 28 (.tmp 2) (.tmp 127) rfl w.heap.size #[.int .i64 0, .int .u64 0, .int .u64 0, .int .i64 0, .int .i64 0, .int .u32 0, .int .u32 0, .int .u64 0, .int .u64 0, .int .u64 0, .int .u64 0, .int .u64 0, .int .u64 0, .int .u64 0, .string ⟨#[]⟩] rfl rfl 28 _ KG.src size15 rfl one15 ?_))
      exact bodyPost_ret (results_mg Try.results14 _ _ w.heap.size zero15 _ rfl (KG.src.row zero15.toArray) size15 rfl) rfl ⟨by first | rfl | (rw [he]; rfl), below_setRow KG.b (Nat.le_refl _) _⟩
    · go_wp2_with (first | (refine at_op (.load 28 (.tmp 4)) rfl ?_; refine wpList_load_row rfl 28 (.tmp 4) rfl (w.heap.size + 1) rfl 28 (Mg.mk 4 EP ID 0 (x17 * 256 + x18) Da.zero []).cells.toArray (0, 0) _ KF.dst Try.underlying28 rfl HZq.out ?_) | (go_at_call 12; refine (HRt.out _).mono ?_; rintro e Xg ⟨rfl, bg⟩; have KG := KF.over bg; clear KF) | (refine at_op (.load 28 (.tmp 4)) rfl ?_; refine wpList_load_row rfl 28 (.tmp 4) rfl (w.heap.size + 1) rfl 28 (Mg.mk 4 EP ID 0 (x17 * 256 + x18) Da.zero []).cells.toArray (0, 0) _ KG.dst Try.underlying28 rfl HZq.out ?_) | (refine at_op (.store 28 (.tmp 2) (.tmp 128)) rfl ?_; refine wpList_store_row rfl 28 (.tmp 2) (.tmp 128) rfl w.heap.size (Mg.mk 4 EP ID 0 (x17 * 256 + x18) Da.zero []).cells.toArray rfl rfl 28 _ KG.src HZq.out HSq.out (Mg.cells_one _) ?_))
      exact bodyPost_ret (results_mg Try.results14 _ _ w.heap.size (Mg.mk 4 EP ID 0 (x17 * 256 + x18) Da.zero []).cells _ rfl (KG.src.row (Mg.mk 4 EP ID 0 (x17 * 256 + x18) Da.zero []).cells.toArray) HZq.out rfl) rfl ⟨by first | rfl | (rw [he]; rfl), below_setRow KG.b (Nat.le_refl _) _⟩

end Go.Proofs.Ytpdndcmaaghnjaa

namespace Go.Proofs.Ytpdndcmaaghnjaa
open Go.RowKit
open D (Da Blk)
open K (numOf textF)

set_option linter.unusedSimpArgs false in
set_option maxRecDepth 8000 in
set_option maxHeartbeats 4000000 in
theorem rd_full5 (b off len cap : Nat) (l : List Int) (w : World) (hb : K.Bs w (some ⟨b, off, none⟩) len l) (hcap : len ≤ cap) (hlen : len ≤ 2000) (hh : l.head? = some 5) (hn : 19 ≤ len) : Calls Try.prog 14 #[.slice (some ⟨b, off, none⟩) len cap] w fun e w' => e = .returned (.tuple #[(decM l).1.vl, .int .i64 (decM l).2]) ∧ Below w.heap.size w w' := by
  have hl := hb.1
  have HLen : Hid (len ≤ 2000) := hlen
  have hby : D.Byt l := hb.2.1
  have hg0 : l.getD 0 0 = 5 := by cases l with
    | nil => cases hh
    | cons x r => cases hh; rfl
  have Z0 := two_blk w zero15
  have c0 : (w.alloc (Obj.cells zero15.toArray 28)).cell? ⟨b, off, none⟩ = some (.int .u8 5) := by have := cell_at hb (room1 w (Obj.cells zero15.toArray 28)) 0 (by omega); rw [hg0] at this; exact this
  have h0 : ((len : Int) == 0) = false := beq_false_of_ne (by omega)
  have h1 : decide ((len : Int) < 19) = false := decide_eq_false (by omega)
  have hcut1 : ∀ W : World, (Instr.sliceAt 30 (.slice (some ⟨b, off, none⟩) len cap) (some (.int .i64 1)) none none).run Try.prog W = .ok (.slice (some ⟨b, off + 1, none⟩) (len - 1) (cap - 1)) W := cut_low1 b off len cap 1 (by omega) (by omega)
  have HT1 := take_at (cap := cap) hb 1 (by omega)
  have hcut9 : ∀ W : World, (Instr.sliceAt 30 (.slice (some ⟨b, off, none⟩) len cap) (some (.int .i64 9)) none none).run Try.prog W = .ok (.slice (some ⟨b, off + 9, none⟩) (len - 9) (cap - 9)) W := cut_low1 b off len cap 9 (by omega) (by omega)
  have HT9 := take_at (cap := cap) hb 9 (by omega)
  have ue := num_u8 (byt_sub hby 1 8) (by rw [List.length_take]; exact Nat.min_le_left _ _)
  have ui := num_u8 (byt_sub hby 9 8) (by rw [List.length_take]; exact Nat.min_le_left _ _)
  have hneed : need 5 = 19 := rfl
  have hsize : size 5 l = 19 := rfl
  have Hlong : Hid (size 5 l < len → decM l = (Mg.zero, 3)) := fun h => tell_long hh ⟨by decide, by decide⟩ hby (by rw [hneed, hl]; exact hn) (by rw [hl]; exact h)
  have Hjust : Hid (size 5 l = len → decM l = if rightB (rd 5 l) = true then (rd 5 l, 0) else (Mg.zero, 1)) := fun h => tell_just hh ⟨by decide, by decide⟩ hby (by rw [hneed, hl]; exact hn) (by rw [hl]; exact h)
  have hc17 := fun X hX => cell_at (X := X) hb hX 17 (by omega)
  have hc18 := fun X hX => cell_at (X := X) hb hX 18 (by omega)
  have hv : numOf ((l.drop 17).take 2) = l.getD 17 0 * 256 + l.getD 18 0 := two_at l 17 (by omega)
  have y17 := D.byt_get hby 17; have y18 := D.byt_get hby 18
  have hrd : rd 5 l = ⟨5, numOf ((l.drop 1).take 8), numOf ((l.drop 9).take 8), 0, (l.getD 17 0 * 256 + l.getD 18 0), Da.zero, []⟩ := by
    rw [← hv]
    rfl
  rw [hsize] at Hlong Hjust
  rw [hrd] at Hjust
  clear hrd hh hneed hsize hg0
  clear hv
  generalize decM l = dm at *
  generalize numOf ((l.drop 1).take 8) = EP at *
  generalize numOf ((l.drop 9).take 8) = ID at *
  generalize l.getD 17 0 = x17 at *
  generalize l.getD 18 0 = x18 at *
  have hm1 : IntKind.i64.wrap x17 = x17 := by rw [IntKind.wrap_i64]; omega
  have hm2 : IntKind.i64.wrap x18 = x18 := by rw [IntKind.wrap_i64]; omega
  have hm3 : IntKind.i64.wrap (x17 * 256) = x17 * 256 := by rw [IntKind.wrap_i64]; omega
  have hm4 : IntKind.i64.wrap (x17 * 256 + x18) = x17 * 256 + x18 := by rw [IntKind.wrap_i64]; omega
  clear y17 y18
  have HRt : Hid (∀ W : World, Calls Try.prog 12 #[.agg (Mg.mk 5 EP ID 0 (x17 * 256 + x18) Da.zero []).cells.toArray] W fun e w' => e = .returned (.bool (rightB (Mg.mk 5 EP ID 0 (x17 * 256 + x18) Da.zero []))) ∧ Below W.heap.size W w') := fun W => refRight_any (Mg.mk 5 EP ID 0 (x17 * 256 + x18) Da.zero []) W D.zero_ok (fun z hz => by cases hz)
  have HZq : Hid ((Try.prog.info? 28).map (·.size) = some (Mg.mk 5 EP ID 0 (x17 * 256 + x18) Da.zero []).cells.toArray.size) := Mg.size (Mg.mk 5 EP ID 0 (x17 * 256 + x18) Da.zero []) D.zero_ok
  have HSq : Hid (zero15.toArray.size = (Mg.mk 5 EP ID 0 (x17 * 256 + x18) Da.zero []).cells.toArray.size) := by unfold Hid; rw [List.size_toArray, List.size_toArray, Mg.cells_len _ D.zero_ok]; rfl
  have HT1h : Hid _ := HT1
  clear HT1 hb hby hl hlen ue ui
  clear hcap
  have Hn : Hid (19 ≤ len) := hn
  have hpos : 0 < len := by omega
  have Hi : Hid ((17 : Int) < (len : Int) ∧ (18 : Int) < (len : Int)) := ⟨by omega, by omega⟩
  clear hn
  generalize rightB (Mg.mk 5 EP ID 0 (x17 * 256 + x18) Da.zero []) = rb at *
  unfold zero15 at *
  go_enter Try.func14, Try.ntmps14
  go_upto_region 4 with (refine at_op (.store 28 (.tmp 4) (.tmp 23)) rfl ?_; refine wpList_store_r rfl 28 (.tmp 4) (.tmp 23) rfl (w.heap.size + 1) (Mg.mk 5 0 0 0 0 Da.zero []).cells.toArray rfl rfl 28 _ Z0.2.1 Try.size28 rfl (Mg.cells_one _) ?_; intro X0 hX0; have K0 : Mk w w.heap.size (w.heap.size + 1) zero15 (Mg.mk 5 0 0 0 0 Da.zero []) X0 := mk_first Z0 hX0; clear hX0 Z0 c0; have d0 : X0.cell? ⟨w.heap.size + 1, 0, none⟩ = some (.int .i64 5) := K0.dst.cell 0)
  go_upto_region 15 with fail
  go_wp2_with fail
  refine (HT1h.out _ K0.b).mono ?_
  rintro e Xa ⟨rfl, hXa⟩
  subst hXa
  go_wp2_with (refine at_op (.store 22 (.tmp 64) (.tmp 63)) rfl ?_; refine wpList_store_x rfl 22 (.tmp 64) (.tmp 63) rfl (w.heap.size + 1) 1 (.int .u64 EP) rfl rfl K0.dst (Mg.lt D.zero_ok 1 (by decide)) size22 rfl ?_; intro YK1 hY; have K1 := K0.epoch EP hY; clear hY; have dK1 : YK1.cell? ⟨w.heap.size + 1, 0, none⟩ = some (.int .i64 5) := K1.dst.cell 0)
  refine (HT9 _ K1.b).mono ?_
  rintro e Xb ⟨rfl, hXb⟩
  subst hXb
  go_upto_region 21 with (refine at_op (.store 22 (.tmp 75) (.tmp 74)) rfl ?_; refine wpList_store_x rfl 22 (.tmp 75) (.tmp 74) rfl (w.heap.size + 1) 2 (.int .u64 ID) rfl rfl K1.dst (Mg.lt D.zero_ok 2 (by decide)) size22 rfl ?_; intro YK2 hY; have K2 := K1.id ID hY; clear hY; have dK2 : YK2.cell? ⟨w.heap.size + 1, 0, none⟩ = some (.int .i64 5) := K2.dst.cell 0)
  refine wp_region_late (E := [11]) (S := (fun X => X.cell? ⟨b, off + 17, none⟩ = some (.int .u8 x17) ∧ X.cell? ⟨b, off + 18, none⟩ = some (.int .u8 x18) ∧ Mk w w.heap.size (w.heap.size + 1) zero15 (Mg.mk 5 EP ID 0 0 Da.zero []) X)) (by kernel_rfl) (⟨hc17 _ (K2.over (D.below_drewN _ 1)).b, hc18 _ (K2.over (D.below_drewN _ 1)).b, K2.over (D.below_drewN _ 1)⟩) (fun hHeld => ?_)
  simp only [List.size_toArray, List.length_cons, List.length_nil, Nat.reduceAdd]
  refine wpAnyL_take [1, 2, 3, 4, 9, 11] (i := 0) (v := ?_) (by kernel_rfl) (by kernel_rfl) (by kernel_rfl) rfl (by kernel_rfl) (by kernel_rfl) (by kernel_rfl) (fun _ _ _ h => h) (Or.inl ⟨by rfl, ?_⟩) hHeld ?_
  rotate_left
  · (intro w hSw; (try dsimp only at hSw); have s0 := hSw.1; have s1 := hSw.2.1; have t7 := Hi.out.1; have t8 := Hi.out.2; go_simp; try with_reducible rfl)
  try simp only [Act.put, List.setIfInBounds_toArray, List.set_cons_zero, List.set_cons_succ, List.getElem_toArray, List.getElem_cons_zero, List.getElem_cons_succ]
  refine wpAnyL_take [2, 3, 4, 9, 11] (i := 1) (v := ?_) (by kernel_rfl) (by kernel_rfl) (by kernel_rfl) rfl (by kernel_rfl) (by kernel_rfl) (by kernel_rfl) (fun _ _ _ h => h) (Or.inl ⟨by rfl, ?_⟩) hHeld ?_
  rotate_left
  · (intro w hSw; (try dsimp only at hSw); have s0 := hSw.1; have s1 := hSw.2.1; have t7 := Hi.out.1; have t8 := Hi.out.2; go_simp; try with_reducible rfl)
  try simp only [Act.put, List.setIfInBounds_toArray, List.set_cons_zero, List.set_cons_succ, List.getElem_toArray, List.getElem_cons_zero, List.getElem_cons_succ]
  refine wpAnyL_take [3, 4, 9, 11] (i := 2) (v := ?_) (by kernel_rfl) (by kernel_rfl) (by kernel_rfl) rfl (by kernel_rfl) (by kernel_rfl) (by kernel_rfl) (fun _ _ _ h => h) (Or.inl ⟨by rfl, ?_⟩) hHeld ?_
  rotate_left
  · (intro w hSw; (try dsimp only at hSw); have s0 := hSw.1; have s1 := hSw.2.1; have t7 := Hi.out.1; have t8 := Hi.out.2; go_simp; try with_reducible rfl)
  try simp only [Act.put, List.setIfInBounds_toArray, List.set_cons_zero, List.set_cons_succ, List.getElem_toArray, List.getElem_cons_zero, List.getElem_cons_succ]
  refine wpAnyL_take [4, 9, 11] (i := 3) (v := ?_) (by kernel_rfl) (by kernel_rfl) (by kernel_rfl) rfl (by kernel_rfl) (by kernel_rfl) (by kernel_rfl) (fun _ _ _ h => h) (Or.inl ⟨by rfl, ?_⟩) hHeld ?_
  rotate_left
  · (intro w hSw; (try dsimp only at hSw); have s0 := hSw.1; have s1 := hSw.2.1; have t7 := Hi.out.1; have t8 := Hi.out.2; go_simp; try with_reducible rfl)
  try simp only [Act.put, List.setIfInBounds_toArray, List.set_cons_zero, List.set_cons_succ, List.getElem_toArray, List.getElem_cons_zero, List.getElem_cons_succ]
  refine wpAnyL_take [9, 11] (i := 4) (v := ?_) (by kernel_rfl) (by kernel_rfl) (by kernel_rfl) rfl (by kernel_rfl) (by kernel_rfl) (by kernel_rfl) (fun _ _ _ h => h) (Or.inl ⟨by rfl, ?_⟩) hHeld ?_
  rotate_left
  · (intro w hSw; (try dsimp only at hSw); have s0 := hSw.1; have s1 := hSw.2.1; have t7 := Hi.out.1; have t8 := Hi.out.2; go_simp; try with_reducible rfl)
  try simp only [Act.put, List.setIfInBounds_toArray, List.set_cons_zero, List.set_cons_succ, List.getElem_toArray, List.getElem_cons_zero, List.getElem_cons_succ]
  refine wpAnyL_take [6, 7, 8, 9, 11] (i := 5) (v := ?_) (by kernel_rfl) (by kernel_rfl) (by kernel_rfl) rfl (by kernel_rfl) (by kernel_rfl) (by kernel_rfl) (fun _ _ _ h => h) (Or.inl ⟨by rfl, ?_⟩) hHeld ?_
  rotate_left
  · (intro w hSw; (try dsimp only at hSw); have s0 := hSw.1; have s1 := hSw.2.1; have t7 := Hi.out.1; have t8 := Hi.out.2; go_simp; try with_reducible rfl)
  try simp only [Act.put, List.setIfInBounds_toArray, List.set_cons_zero, List.set_cons_succ, List.getElem_toArray, List.getElem_cons_zero, List.getElem_cons_succ]
  refine wpAnyL_take [7, 8, 9, 11] (i := 6) (v := ?_) (by kernel_rfl) (by kernel_rfl) (by kernel_rfl) rfl (by kernel_rfl) (by kernel_rfl) (by kernel_rfl) (fun _ _ _ h => h) (Or.inl ⟨by rfl, ?_⟩) hHeld ?_
  rotate_left
  · (intro w hSw; (try dsimp only at hSw); have s0 := hSw.1; have s1 := hSw.2.1; have t7 := Hi.out.1; have t8 := Hi.out.2; go_simp; try with_reducible rfl)
  try simp only [Act.put, List.setIfInBounds_toArray, List.set_cons_zero, List.set_cons_succ, List.getElem_toArray, List.getElem_cons_zero, List.getElem_cons_succ]
  refine wpAnyL_take [8, 9, 11] (i := 7) (v := ?_) (by kernel_rfl) (by kernel_rfl) (by kernel_rfl) rfl (by kernel_rfl) (by kernel_rfl) (by kernel_rfl) (fun _ _ _ h => h) (Or.inl ⟨by rfl, ?_⟩) hHeld ?_
  rotate_left
  · (intro w hSw; (try dsimp only at hSw); have s0 := hSw.1; have s1 := hSw.2.1; have t7 := Hi.out.1; have t8 := Hi.out.2; go_simp; try with_reducible rfl)
  try simp only [Act.put, List.setIfInBounds_toArray, List.set_cons_zero, List.set_cons_succ, List.getElem_toArray, List.getElem_cons_zero, List.getElem_cons_succ]
  refine wpAnyL_take [9, 11] (i := 8) (v := ?_) (by kernel_rfl) (by kernel_rfl) (by kernel_rfl) rfl (by kernel_rfl) (by kernel_rfl) (by kernel_rfl) (fun _ _ _ h => h) (Or.inl ⟨by rfl, ?_⟩) hHeld ?_
  rotate_left
  · (intro w hSw; (try dsimp only at hSw); have s0 := hSw.1; have s1 := hSw.2.1; have t7 := Hi.out.1; have t8 := Hi.out.2; go_simp; try with_reducible rfl)
  try simp only [Act.put, List.setIfInBounds_toArray, List.set_cons_zero, List.set_cons_succ, List.getElem_toArray, List.getElem_cons_zero, List.getElem_cons_succ]
  refine wpAnyL_take [11] (i := 9) (v := ?_) (by kernel_rfl) (by kernel_rfl) (by kernel_rfl) rfl (by kernel_rfl) (by kernel_rfl) (by kernel_rfl) (fun _ _ _ h => h) (Or.inl ⟨by rfl, ?_⟩) hHeld ?_
  rotate_left
  · (intro w hSw; (try dsimp only at hSw); have s0 := hSw.1; have s1 := hSw.2.1; have t7 := Hi.out.1; have t8 := Hi.out.2; go_simp; try with_reducible rfl)
  try simp only [Act.put, List.setIfInBounds_toArray, List.set_cons_zero, List.set_cons_succ, List.getElem_toArray, List.getElem_cons_zero, List.getElem_cons_succ]
  refine wpAnyL_take [11] (i := 10) (v := ?_) (by kernel_rfl) (by kernel_rfl) (by kernel_rfl) rfl (by kernel_rfl) (by kernel_rfl) (by kernel_rfl) (fun _ _ _ h => h) (Or.inl ⟨by rfl, ?_⟩) hHeld ?_
  rotate_left
  · (intro w hSw; (try dsimp only at hSw); have s0 := hSw.1; have s1 := hSw.2.1; have t7 := Hi.out.1; have t8 := Hi.out.2; go_simp; try with_reducible rfl)
  try simp only [Act.put, List.setIfInBounds_toArray, List.set_cons_zero, List.set_cons_succ, List.getElem_toArray, List.getElem_cons_zero, List.getElem_cons_succ]
  refine wpAnyL_one (i := 11) (by kernel_rfl) rfl (fun K hK => ?_)
  rw [if_pos (by rfl)]
  refine wp_store_x 3 (.tmp 88) (.tmp 87) rfl (w.heap.size + 1) 4 (.int .i64 (x17 * 256 + x18)) rfl rfl hHeld.2.2.dst (Mg.lt D.zero_ok 4 (by decide)) size3 rfl ?_
  intro Y3 hY
  have K3 := hHeld.2.2.vals (x17 * 256 + x18) hY
  clear hY
  have dK3 : Y3.cell? ⟨w.heap.size + 1, 0, none⟩ = some (.int .i64 5) := K3.dst.cell 0
  refine hK.out _ _ (fun h => by cases h) ?_
  clear hK K
  try simp only [Act.put, List.setIfInBounds_toArray, List.set_cons_zero, List.set_cons_succ, List.getElem_toArray, List.getElem_cons_zero, List.getElem_cons_succ]
  refine wpAnyL_done (by kernel_rfl) ?_ _
  go_upto_region 31 with fail
  have KF : Mk w w.heap.size (w.heap.size + 1) zero15 (Mg.mk 5 EP ID 0 (x17 * 256 + x18) Da.zero []) _ := K3
  by_cases hlg : 19 < len
  · have he := Hlong.out hlg
    have hd : decide (19 < (len : Int)) = true := decide_eq_true (by omega)
    clear hlg Hlong Hjust
    go_wp2_with (refine at_op (.store 28 (.tmp 2) (.tmp 123)) rfl ?_; refine wpList_store_row rfl 28 (.tmp 2) (.tmp 123) rfl w.heap.size #[.int .i64 0, .int .u64 0, .int .u64 0, .int .i64 0, .int .i64 0, .int .u32 0, .int .u32 0, .int .u64 0, .int .u64 0, .int .u64 0, .int .u64 0, .int .u64 0, .int .u64 0, .int .u64 0, .string ⟨#[]⟩] rfl rfl 28 _ KF.src size15 rfl one15 ?_)
    exact bodyPost_ret (results_mg Try.results14 _ _ w.heap.size zero15 _ rfl (KF.src.row zero15.toArray) size15 rfl) rfl ⟨by first | rfl | (rw [he]; rfl), below_setRow KF.b (Nat.le_refl _) _⟩
  · have he := Hjust.out (by have := Hn.out; omega)
    have hd : decide (19 < (len : Int)) = false := decide_eq_false (by omega)
    clear hlg Hlong Hjust
    cases rb
    · go_wp2_with (first | (refine at_op (.load 28 (.tmp 4)) rfl ?_; refine wpList_load_row rfl 28 (.tmp 4) rfl (w.heap.size + 1) rfl 28 (Mg.mk 5 EP ID 0 (x17 * 256 + x18) Da.zero []).cells.toArray (0, 0) _ KF.dst Try.underlying28 rfl HZq.out ?_) | (go_at_call 12; refine (HRt.out _).mono ?_; rintro e Xg ⟨rfl, bg⟩; have KG := KF.over bg; clear KF) | (refine at_op (.store 28 (.tmp 2) (.tmp 127)) rfl ?_; refine wpList_store_row rfl 28 (.tmp 2) (.tmp 127) rfl w.heap.size #[.int .i64 0, .int .u64 0, .int .u64 0, .int .i64 0, .int .i64 0, .int .u32 0, .int .u32 0, .int .u64 0, .int .u64 0, .int .u64 0, .int .u64 0, .int .u64 0, .int .u64 0, .int .u64 0, .string ⟨#[]⟩] rfl rfl 28 _ KG.src size15 rfl one15 ?_))
      exact bodyPost_ret (results_mg Try.results14 _ _ w.heap.size zero15 _ rfl (KG.src.row zero15.toArray) size15 rfl) rfl ⟨by first | rfl | (rw [he]; rfl), below_setRow KG.b (Nat.le_refl _) _⟩
    · go_wp2_with (first | (refine at_op (.load 28 (.tmp 4)) rfl ?_; refine wpList_load_row rfl 28 (.tmp 4) rfl (w.heap.size + 1) rfl 28 (Mg.mk 5 EP ID 0 (x17 * 256 + x18) Da.zero []).cells.toArray (0, 0) _ KF.dst Try.underlying28 rfl HZq.out ?_) | (go_at_call 12; refine (HRt.out _).mono ?_; rintro e Xg ⟨rfl, bg⟩; have KG := KF.over bg; clear KF) | (refine at_op (.load 28 (.tmp 4)) rfl ?_; refine wpList_load_row rfl 28 (.tmp 4) rfl (w.heap.size + 1) rfl 28 (Mg.mk 5 EP ID 0 (x17 * 256 + x18) Da.zero []).cells.toArray (0, 0) _ KG.dst Try.underlying28 rfl HZq.out ?_) | (refine at_op (.store 28 (.tmp 2) (.tmp 128)) rfl ?_; refine wpList_store_row rfl 28 (.tmp 2) (.tmp 128) rfl w.heap.size (Mg.mk 5 EP ID 0 (x17 * 256 + x18) Da.zero []).cells.toArray rfl rfl 28 _ KG.src HZq.out HSq.out (Mg.cells_one _) ?_))
      exact bodyPost_ret (results_mg Try.results14 _ _ w.heap.size (Mg.mk 5 EP ID 0 (x17 * 256 + x18) Da.zero []).cells _ rfl (KG.src.row (Mg.mk 5 EP ID 0 (x17 * 256 + x18) Da.zero []).cells.toArray) HZq.out rfl) rfl ⟨by first | rfl | (rw [he]; rfl), below_setRow KG.b (Nat.le_refl _) _⟩

end Go.Proofs.Ytpdndcmaaghnjaa

namespace Go.Proofs.Ytpdndcmaaghnjaa
open Go.RowKit
open D (Da Blk)
open K (numOf textF)

set_option linter.unusedSimpArgs false in
set_option maxRecDepth 8000 in
set_option maxHeartbeats 4000000 in
theorem rd_full7 (b off len cap : Nat) (l : List Int) (w : World) (hb : K.Bs w (some ⟨b, off, none⟩) len l) (hcap : len ≤ cap) (hlen : len ≤ 2000) (hh : l.head? = some 7) (hn : 19 ≤ len) : Calls Try.prog 14 #[.slice (some ⟨b, off, none⟩) len cap] w fun e w' => e = .returned (.tuple #[(decM l).1.vl, .int .i64 (decM l).2]) ∧ Below w.heap.size w w' := by
  have hl := hb.1
  have HLen : Hid (len ≤ 2000) := hlen
  have hby : D.Byt l := hb.2.1
  have hg0 : l.getD 0 0 = 7 := by cases l with
    | nil => cases hh
    | cons x r => cases hh; rfl
  have Z0 := two_blk w zero15
  have c0 : (w.alloc (Obj.cells zero15.toArray 28)).cell? ⟨b, off, none⟩ = some (.int .u8 7) := by have := cell_at hb (room1 w (Obj.cells zero15.toArray 28)) 0 (by omega); rw [hg0] at this; exact this
  have h0 : ((len : Int) == 0) = false := beq_false_of_ne (by omega)
  have h1 : decide ((len : Int) < 19) = false := decide_eq_false (by omega)
  have hcut1 : ∀ W : World, (Instr.sliceAt 30 (.slice (some ⟨b, off, none⟩) len cap) (some (.int .i64 1)) none none).run Try.prog W = .ok (.slice (some ⟨b, off + 1, none⟩) (len - 1) (cap - 1)) W := cut_low1 b off len cap 1 (by omega) (by omega)
  have HT1 := take_at (cap := cap) hb 1 (by omega)
  have hcut9 : ∀ W : World, (Instr.sliceAt 30 (.slice (some ⟨b, off, none⟩) len cap) (some (.int .i64 9)) none none).run Try.prog W = .ok (.slice (some ⟨b, off + 9, none⟩) (len - 9) (cap - 9)) W := cut_low1 b off len cap 9 (by omega) (by omega)
  have HT9 := take_at (cap := cap) hb 9 (by omega)
  have ue := num_u8 (byt_sub hby 1 8) (by rw [List.length_take]; exact Nat.min_le_left _ _)
  have ui := num_u8 (byt_sub hby 9 8) (by rw [List.length_take]; exact Nat.min_le_left _ _)
  have hneed : need 7 = 19 := rfl
  have hsize : size 7 l = 19 := rfl
  have Hlong : Hid (size 7 l < len → decM l = (Mg.zero, 3)) := fun h => tell_long hh ⟨by decide, by decide⟩ hby (by rw [hneed, hl]; exact hn) (by rw [hl]; exact h)
  have Hjust : Hid (size 7 l = len → decM l = if rightB (rd 7 l) = true then (rd 7 l, 0) else (Mg.zero, 1)) := fun h => tell_just hh ⟨by decide, by decide⟩ hby (by rw [hneed, hl]; exact hn) (by rw [hl]; exact h)
  have hc17 := fun X hX => cell_at (X := X) hb hX 17 (by omega)
  have hc18 := fun X hX => cell_at (X := X) hb hX 18 (by omega)
  have hv : numOf ((l.drop 17).take 2) = l.getD 17 0 * 256 + l.getD 18 0 := two_at l 17 (by omega)
  have y17 := D.byt_get hby 17; have y18 := D.byt_get hby 18
  have hrd : rd 7 l = ⟨7, numOf ((l.drop 1).take 8), numOf ((l.drop 9).take 8), 0, (l.getD 17 0 * 256 + l.getD 18 0), Da.zero, []⟩ := by
    rw [← hv]
    rfl
  rw [hsize] at Hlong Hjust
  rw [hrd] at Hjust
  clear hrd hh hneed hsize hg0
  clear hv
  generalize decM l = dm at *
  generalize numOf ((l.drop 1).take 8) = EP at *
  generalize numOf ((l.drop 9).take 8) = ID at *
  generalize l.getD 17 0 = x17 at *
  generalize l.getD 18 0 = x18 at *
  have hm1 : IntKind.i64.wrap x17 = x17 := by rw [IntKind.wrap_i64]; omega
  have hm2 : IntKind.i64.wrap x18 = x18 := by rw [IntKind.wrap_i64]; omega
  have hm3 : IntKind.i64.wrap (x17 * 256) = x17 * 256 := by rw [IntKind.wrap_i64]; omega
  have hm4 : IntKind.i64.wrap (x17 * 256 + x18) = x17 * 256 + x18 := by rw [IntKind.wrap_i64]; omega
  clear y17 y18
  have HRt : Hid (∀ W : World, Calls Try.prog 12 #[.agg (Mg.mk 7 EP ID 0 (x17 * 256 + x18) Da.zero []).cells.toArray] W fun e w' => e = .returned (.bool (rightB (Mg.mk 7 EP ID 0 (x17 * 256 + x18) Da.zero []))) ∧ Below W.heap.size W w') := fun W => refRight_any (Mg.mk 7 EP ID 0 (x17 * 256 + x18) Da.zero []) W D.zero_ok (fun z hz => by cases hz)
  have HZq : Hid ((Try.prog.info? 28).map (·.size) = some (Mg.mk 7 EP ID 0 (x17 * 256 + x18) Da.zero []).cells.toArray.size) := Mg.size (Mg.mk 7 EP ID 0 (x17 * 256 + x18) Da.zero []) D.zero_ok
  have HSq : Hid (zero15.toArray.size = (Mg.mk 7 EP ID 0 (x17 * 256 + x18) Da.zero []).cells.toArray.size) := by unfold Hid; rw [List.size_toArray, List.size_toArray, Mg.cells_len _ D.zero_ok]; rfl
  have HT1h : Hid _ := HT1
  clear HT1 hb hby hl hlen ue ui
  clear hcap
  have Hn : Hid (19 ≤ len) := hn
  have hpos : 0 < len := by omega
  have Hi : Hid ((17 : Int) < (len : Int) ∧ (18 : Int) < (len : Int)) := ⟨by omega, by omega⟩
  clear hn
  generalize rightB (Mg.mk 7 EP ID 0 (x17 * 256 + x18) Da.zero []) = rb at *
  unfold zero15 at *
  go_enter Try.func14, Try.ntmps14
  go_upto_region 4 with (refine at_op (.store 28 (.tmp 4) (.tmp 23)) rfl ?_; refine wpList_store_r rfl 28 (.tmp 4) (.tmp 23) rfl (w.heap.size + 1) (Mg.mk 7 0 0 0 0 Da.zero []).cells.toArray rfl rfl 28 _ Z0.2.1 Try.size28 rfl (Mg.cells_one _) ?_; intro X0 hX0; have K0 : Mk w w.heap.size (w.heap.size + 1) zero15 (Mg.mk 7 0 0 0 0 Da.zero []) X0 := mk_first Z0 hX0; clear hX0 Z0 c0; have d0 : X0.cell? ⟨w.heap.size + 1, 0, none⟩ = some (.int .i64 7) := K0.dst.cell 0)
  go_upto_region 15 with fail
  go_wp2_with fail
  refine (HT1h.out _ K0.b).mono ?_
  rintro e Xa ⟨rfl, hXa⟩
  subst hXa
  go_wp2_with (refine at_op (.store 22 (.tmp 64) (.tmp 63)) rfl ?_; refine wpList_store_x rfl 22 (.tmp 64) (.tmp 63) rfl (w.heap.size + 1) 1 (.int .u64 EP) rfl rfl K0.dst (Mg.lt D.zero_ok 1 (by decide)) size22 rfl ?_; intro YK1 hY; have K1 := K0.epoch EP hY; clear hY; have dK1 : YK1.cell? ⟨w.heap.size + 1, 0, none⟩ = some (.int .i64 7) := K1.dst.cell 0)
  refine (HT9 _ K1.b).mono ?_
  rintro e Xb ⟨rfl, hXb⟩
  subst hXb
  go_upto_region 21 with (refine at_op (.store 22 (.tmp 75) (.tmp 74)) rfl ?_; refine wpList_store_x rfl 22 (.tmp 75) (.tmp 74) rfl (w.heap.size + 1) 2 (.int .u64 ID) rfl rfl K1.dst (Mg.lt D.zero_ok 2 (by decide)) size22 rfl ?_; intro YK2 hY; have K2 := K1.id ID hY; clear hY; have dK2 : YK2.cell? ⟨w.heap.size + 1, 0, none⟩ = some (.int .i64 7) := K2.dst.cell 0)
  refine wp_region_late (E := [11]) (S := (fun X => X.cell? ⟨b, off + 17, none⟩ = some (.int .u8 x17) ∧ X.cell? ⟨b, off + 18, none⟩ = some (.int .u8 x18) ∧ Mk w w.heap.size (w.heap.size + 1) zero15 (Mg.mk 7 EP ID 0 0 Da.zero []) X)) (by kernel_rfl) (⟨hc17 _ (K2.over (D.below_drewN _ 1)).b, hc18 _ (K2.over (D.below_drewN _ 1)).b, K2.over (D.below_drewN _ 1)⟩) (fun hHeld => ?_)
  simp only [List.size_toArray, List.length_cons, List.length_nil, Nat.reduceAdd]
  refine wpAnyL_take [1, 2, 3, 4, 9, 11] (i := 0) (v := ?_) (by kernel_rfl) (by kernel_rfl) (by kernel_rfl) rfl (by kernel_rfl) (by kernel_rfl) (by kernel_rfl) (fun _ _ _ h => h) (Or.inl ⟨by rfl, ?_⟩) hHeld ?_
  rotate_left
  · (intro w hSw; (try dsimp only at hSw); have s0 := hSw.1; have s1 := hSw.2.1; have t7 := Hi.out.1; have t8 := Hi.out.2; go_simp; try with_reducible rfl)
  try simp only [Act.put, List.setIfInBounds_toArray, List.set_cons_zero, List.set_cons_succ, List.getElem_toArray, List.getElem_cons_zero, List.getElem_cons_succ]
  refine wpAnyL_take [2, 3, 4, 9, 11] (i := 1) (v := ?_) (by kernel_rfl) (by kernel_rfl) (by kernel_rfl) rfl (by kernel_rfl) (by kernel_rfl) (by kernel_rfl) (fun _ _ _ h => h) (Or.inl ⟨by rfl, ?_⟩) hHeld ?_
  rotate_left
  · (intro w hSw; (try dsimp only at hSw); have s0 := hSw.1; have s1 := hSw.2.1; have t7 := Hi.out.1; have t8 := Hi.out.2; go_simp; try with_reducible rfl)
  try simp only [Act.put, List.setIfInBounds_toArray, List.set_cons_zero, List.set_cons_succ, List.getElem_toArray, List.getElem_cons_zero, List.getElem_cons_succ]
  refine wpAnyL_take [3, 4, 9, 11] (i := 2) (v := ?_) (by kernel_rfl) (by kernel_rfl) (by kernel_rfl) rfl (by kernel_rfl) (by kernel_rfl) (by kernel_rfl) (fun _ _ _ h => h) (Or.inl ⟨by rfl, ?_⟩) hHeld ?_
  rotate_left
  · (intro w hSw; (try dsimp only at hSw); have s0 := hSw.1; have s1 := hSw.2.1; have t7 := Hi.out.1; have t8 := Hi.out.2; go_simp; try with_reducible rfl)
  try simp only [Act.put, List.setIfInBounds_toArray, List.set_cons_zero, List.set_cons_succ, List.getElem_toArray, List.getElem_cons_zero, List.getElem_cons_succ]
  refine wpAnyL_take [4, 9, 11] (i := 3) (v := ?_) (by kernel_rfl) (by kernel_rfl) (by kernel_rfl) rfl (by kernel_rfl) (by kernel_rfl) (by kernel_rfl) (fun _ _ _ h => h) (Or.inl ⟨by rfl, ?_⟩) hHeld ?_
  rotate_left
  · (intro w hSw; (try dsimp only at hSw); have s0 := hSw.1; have s1 := hSw.2.1; have t7 := Hi.out.1; have t8 := Hi.out.2; go_simp; try with_reducible rfl)
  try simp only [Act.put, List.setIfInBounds_toArray, List.set_cons_zero, List.set_cons_succ, List.getElem_toArray, List.getElem_cons_zero, List.getElem_cons_succ]
  refine wpAnyL_take [9, 11] (i := 4) (v := ?_) (by kernel_rfl) (by kernel_rfl) (by kernel_rfl) rfl (by kernel_rfl) (by kernel_rfl) (by kernel_rfl) (fun _ _ _ h => h) (Or.inl ⟨by rfl, ?_⟩) hHeld ?_
  rotate_left
  · (intro w hSw; (try dsimp only at hSw); have s0 := hSw.1; have s1 := hSw.2.1; have t7 := Hi.out.1; have t8 := Hi.out.2; go_simp; try with_reducible rfl)
  try simp only [Act.put, List.setIfInBounds_toArray, List.set_cons_zero, List.set_cons_succ, List.getElem_toArray, List.getElem_cons_zero, List.getElem_cons_succ]
  refine wpAnyL_take [6, 7, 8, 9, 11] (i := 5) (v := ?_) (by kernel_rfl) (by kernel_rfl) (by kernel_rfl) rfl (by kernel_rfl) (by kernel_rfl) (by kernel_rfl) (fun _ _ _ h => h) (Or.inl ⟨by rfl, ?_⟩) hHeld ?_
  rotate_left
  · (intro w hSw; (try dsimp only at hSw); have s0 := hSw.1; have s1 := hSw.2.1; have t7 := Hi.out.1; have t8 := Hi.out.2; go_simp; try with_reducible rfl)
  try simp only [Act.put, List.setIfInBounds_toArray, List.set_cons_zero, List.set_cons_succ, List.getElem_toArray, List.getElem_cons_zero, List.getElem_cons_succ]
  refine wpAnyL_take [7, 8, 9, 11] (i := 6) (v := ?_) (by kernel_rfl) (by kernel_rfl) (by kernel_rfl) rfl (by kernel_rfl) (by kernel_rfl) (by kernel_rfl) (fun _ _ _ h => h) (Or.inl ⟨by rfl, ?_⟩) hHeld ?_
  rotate_left
  · (intro w hSw; (try dsimp only at hSw); have s0 := hSw.1; have s1 := hSw.2.1; have t7 := Hi.out.1; have t8 := Hi.out.2; go_simp; try with_reducible rfl)
  try simp only [Act.put, List.setIfInBounds_toArray, List.set_cons_zero, List.set_cons_succ, List.getElem_toArray, List.getElem_cons_zero, List.getElem_cons_succ]
  refine wpAnyL_take [8, 9, 11] (i := 7) (v := ?_) (by kernel_rfl) (by kernel_rfl) (by kernel_rfl) rfl (by kernel_rfl) (by kernel_rfl) (by kernel_rfl) (fun _ _ _ h => h) (Or.inl ⟨by rfl, ?_⟩) hHeld ?_
  rotate_left
  · (intro w hSw; (try dsimp only at hSw); have s0 := hSw.1; have s1 := hSw.2.1; have t7 := Hi.out.1; have t8 := Hi.out.2; go_simp; try with_reducible rfl)
  try simp only [Act.put, List.setIfInBounds_toArray, List.set_cons_zero, List.set_cons_succ, List.getElem_toArray, List.getElem_cons_zero, List.getElem_cons_succ]
  refine wpAnyL_take [9, 11] (i := 8) (v := ?_) (by kernel_rfl) (by kernel_rfl) (by kernel_rfl) rfl (by kernel_rfl) (by kernel_rfl) (by kernel_rfl) (fun _ _ _ h => h) (Or.inl ⟨by rfl, ?_⟩) hHeld ?_
  rotate_left
  · (intro w hSw; (try dsimp only at hSw); have s0 := hSw.1; have s1 := hSw.2.1; have t7 := Hi.out.1; have t8 := Hi.out.2; go_simp; try with_reducible rfl)
  try simp only [Act.put, List.setIfInBounds_toArray, List.set_cons_zero, List.set_cons_succ, List.getElem_toArray, List.getElem_cons_zero, List.getElem_cons_succ]
  refine wpAnyL_take [11] (i := 9) (v := ?_) (by kernel_rfl) (by kernel_rfl) (by kernel_rfl) rfl (by kernel_rfl) (by kernel_rfl) (by kernel_rfl) (fun _ _ _ h => h) (Or.inl ⟨by rfl, ?_⟩) hHeld ?_
  rotate_left
  · (intro w hSw; (try dsimp only at hSw); have s0 := hSw.1; have s1 := hSw.2.1; have t7 := Hi.out.1; have t8 := Hi.out.2; go_simp; try with_reducible rfl)
  try simp only [Act.put, List.setIfInBounds_toArray, List.set_cons_zero, List.set_cons_succ, List.getElem_toArray, List.getElem_cons_zero, List.getElem_cons_succ]
  refine wpAnyL_take [11] (i := 10) (v := ?_) (by kernel_rfl) (by kernel_rfl) (by kernel_rfl) rfl (by kernel_rfl) (by kernel_rfl) (by kernel_rfl) (fun _ _ _ h => h) (Or.inl ⟨by rfl, ?_⟩) hHeld ?_
  rotate_left
  · (intro w hSw; (try dsimp only at hSw); have s0 := hSw.1; have s1 := hSw.2.1; have t7 := Hi.out.1; have t8 := Hi.out.2; go_simp; try with_reducible rfl)
  try simp only [Act.put, List.setIfInBounds_toArray, List.set_cons_zero, List.set_cons_succ, List.getElem_toArray, List.getElem_cons_zero, List.getElem_cons_succ]
  refine wpAnyL_one (i := 11) (by kernel_rfl) rfl (fun K hK => ?_)
  rw [if_pos (by rfl)]
  refine wp_store_x 3 (.tmp 88) (.tmp 87) rfl (w.heap.size + 1) 4 (.int .i64 (x17 * 256 + x18)) rfl rfl hHeld.2.2.dst (Mg.lt D.zero_ok 4 (by decide)) size3 rfl ?_
  intro Y3 hY
  have K3 := hHeld.2.2.vals (x17 * 256 + x18) hY
  clear hY
  have dK3 : Y3.cell? ⟨w.heap.size + 1, 0, none⟩ = some (.int .i64 7) := K3.dst.cell 0
  refine hK.out _ _ (fun h => by cases h) ?_
  clear hK K
  try simp only [Act.put, List.setIfInBounds_toArray, List.set_cons_zero, List.set_cons_succ, List.getElem_toArray, List.getElem_cons_zero, List.getElem_cons_succ]
  refine wpAnyL_done (by kernel_rfl) ?_ _
  go_upto_region 31 with fail
  have KF : Mk w w.heap.size (w.heap.size + 1) zero15 (Mg.mk 7 EP ID 0 (x17 * 256 + x18) Da.zero []) _ := K3
  by_cases hlg : 19 < len
  · have he := Hlong.out hlg
    have hd : decide (19 < (len : Int)) = true := decide_eq_true (by omega)
    clear hlg Hlong Hjust
    go_wp2_with (refine at_op (.store 28 (.tmp 2) (.tmp 123)) rfl ?_; refine wpList_store_row rfl 28 (.tmp 2) (.tmp 123) rfl w.heap.size #[.int .i64 0, .int .u64 0, .int .u64 0, .int .i64 0, .int .i64 0, .int .u32 0, .int .u32 0, .int .u64 0, .int .u64 0, .int .u64 0, .int .u64 0, .int .u64 0, .int .u64 0, .int .u64 0, .string ⟨#[]⟩] rfl rfl 28 _ KF.src size15 rfl one15 ?_)
    exact bodyPost_ret (results_mg Try.results14 _ _ w.heap.size zero15 _ rfl (KF.src.row zero15.toArray) size15 rfl) rfl ⟨by first | rfl | (rw [he]; rfl), below_setRow KF.b (Nat.le_refl _) _⟩
  · have he := Hjust.out (by have := Hn.out; omega)
    have hd : decide (19 < (len : Int)) = false := decide_eq_false (by omega)
    clear hlg Hlong Hjust
    cases rb
    · go_wp2_with (first | (refine at_op (.load 28 (.tmp 4)) rfl ?_; refine wpList_load_row rfl 28 (.tmp 4) rfl (w.heap.size + 1) rfl 28 (Mg.mk 7 EP ID 0 (x17 * 256 + x18) Da.zero []).cells.toArray (0, 0) _ KF.dst Try.underlying28 rfl HZq.out ?_) | (go_at_call 12; refine (HRt.out _).mono ?_; rintro e Xg ⟨rfl, bg⟩; have KG := KF.over bg; clear KF) | (refine at_op (.store 28 (.tmp 2) (.tmp 127)) rfl ?_; refine wpList_store_row rfl 28 (.tmp 2) (.tmp 127) rfl w.heap.size #[.int .i64 0, .int .u64 0, .int .u64 0, .int .i64 0, .int .i64 0, .int .u32 0, .int .u32 0, .int .u64 0, .int .u64 0, .int .u64 0, .int .u64 0, .int .u64 0, .int .u64 0, .int .u64 0, .string ⟨#[]⟩] rfl rfl 28 _ KG.src size15 rfl one15 ?_))
      exact bodyPost_ret (results_mg Try.results14 _ _ w.heap.size zero15 _ rfl (KG.src.row zero15.toArray) size15 rfl) rfl ⟨by first | rfl | (rw [he]; rfl), below_setRow KG.b (Nat.le_refl _) _⟩
    · go_wp2_with (first | (refine at_op (.load 28 (.tmp 4)) rfl ?_; refine wpList_load_row rfl 28 (.tmp 4) rfl (w.heap.size + 1) rfl 28 (Mg.mk 7 EP ID 0 (x17 * 256 + x18) Da.zero []).cells.toArray (0, 0) _ KF.dst Try.underlying28 rfl HZq.out ?_) | (go_at_call 12; refine (HRt.out _).mono ?_; rintro e Xg ⟨rfl, bg⟩; have KG := KF.over bg; clear KF) | (refine at_op (.load 28 (.tmp 4)) rfl ?_; refine wpList_load_row rfl 28 (.tmp 4) rfl (w.heap.size + 1) rfl 28 (Mg.mk 7 EP ID 0 (x17 * 256 + x18) Da.zero []).cells.toArray (0, 0) _ KG.dst Try.underlying28 rfl HZq.out ?_) | (refine at_op (.store 28 (.tmp 2) (.tmp 128)) rfl ?_; refine wpList_store_row rfl 28 (.tmp 2) (.tmp 128) rfl w.heap.size (Mg.mk 7 EP ID 0 (x17 * 256 + x18) Da.zero []).cells.toArray rfl rfl 28 _ KG.src HZq.out HSq.out (Mg.cells_one _) ?_))
      exact bodyPost_ret (results_mg Try.results14 _ _ w.heap.size (Mg.mk 7 EP ID 0 (x17 * 256 + x18) Da.zero []).cells _ rfl (KG.src.row (Mg.mk 7 EP ID 0 (x17 * 256 + x18) Da.zero []).cells.toArray) HZq.out rfl) rfl ⟨by first | rfl | (rw [he]; rfl), below_setRow KG.b (Nat.le_refl _) _⟩

end Go.Proofs.Ytpdndcmaaghnjaa

