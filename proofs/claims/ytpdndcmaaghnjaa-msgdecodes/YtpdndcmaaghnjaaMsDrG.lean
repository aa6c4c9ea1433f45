/-
  The message of bytes, by the document: kinds 1, 3 and 6.
-/
import Derived.Test.YtpdndcmaaghnjaaMsDrS
namespace Go.Proofs.Ytpdndcmaaghnjaa
open Go.RowKit
open D (Da Blk)
open K (numOf textF)

set_option linter.unusedSimpArgs false in
set_option maxRecDepth 8000 in
set_option maxHeartbeats 4000000 in
theorem rd_full1 (b off len cap : Nat) (l : List Int) (w : World) (hb : K.Bs w (some ⟨b, off, none⟩) len l) (hcap : len ≤ cap) (hlen : len ≤ 2000) (hh : l.head? = some 1) (hn : 9 ≤ len) : Calls Try.prog 14 #[.slice (some ⟨b, off, none⟩) len cap] w fun e w' => e = .returned (.tuple #[(decM l).1.vl, .int .i64 (decM l).2]) ∧ Below w.heap.size w w' := by
  have hl := hb.1
  have HLen : Hid (len ≤ 2000) := hlen
  have hby : D.Byt l := hb.2.1
  have hg0 : l.getD 0 0 = 1 := by cases l with
    | nil => cases hh
    | cons x r => cases hh; rfl
  have Z0 := two_blk w zero15
  have c0 : (w.alloc (Obj.cells zero15.toArray 28)).cell? ⟨b, off, none⟩ = some (.int .u8 1) := by have := cell_at hb (room1 w (Obj.cells zero15.toArray 28)) 0 (by omega); rw [hg0] at this; exact this
  have h0 : ((len : Int) == 0) = false := beq_false_of_ne (by omega)
  have h1 : decide ((len : Int) < 9) = false := decide_eq_false (by omega)
  have hcut1 : ∀ W : World, (Instr.sliceAt 30 (.slice (some ⟨b, off, none⟩) len cap) (some (.int .i64 1)) none none).run Try.prog W = .ok (.slice (some ⟨b, off + 1, none⟩) (len - 1) (cap - 1)) W := cut_low1 b off len cap 1 (by omega) (by omega)
  have HT1 := take_at (cap := cap) hb 1 (by omega)
  have ue := num_u8 (byt_sub hby 1 8) (by rw [List.length_take]; exact Nat.min_le_left _ _)
  have ui := num_u8 (byt_sub hby 9 8) (by rw [List.length_take]; exact Nat.min_le_left _ _)
  have hneed : need 1 = 9 := rfl
  have hsize : size 1 l = 9 := rfl
  have Hlong : Hid (size 1 l < len → decM l = (Mg.zero, 3)) := fun h => tell_long hh ⟨by decide, by decide⟩ hby (by rw [hneed, hl]; exact hn) (by rw [hl]; exact h)
  have Hjust : Hid (size 1 l = len → decM l = if rightB (rd 1 l) = true then (rd 1 l, 0) else (Mg.zero, 1)) := fun h => tell_just hh ⟨by decide, by decide⟩ hby (by rw [hneed, hl]; exact hn) (by rw [hl]; exact h)
  have hrd : rd 1 l = ⟨1, numOf ((l.drop 1).take 8), 0, 0, 0, Da.zero, []⟩ := by
    rfl
  rw [hsize] at Hlong Hjust
  rw [hrd] at Hjust
  clear hrd hh hneed hsize hg0
  generalize decM l = dm at *
  generalize numOf ((l.drop 1).take 8) = EP at *
  generalize numOf ((l.drop 9).take 8) = ID at *
  have HRt : Hid (∀ W : World, Calls Try.prog 12 #[.agg (Mg.mk 1 EP 0 0 0 Da.zero []).cells.toArray] W fun e w' => e = .returned (.bool (rightB (Mg.mk 1 EP 0 0 0 Da.zero []))) ∧ Below W.heap.size W w') := fun W => refRight_any (Mg.mk 1 EP 0 0 0 Da.zero []) W D.zero_ok (fun z hz => by cases hz)
  have HZq : Hid ((Try.prog.info? 28).map (·.size) = some (Mg.mk 1 EP 0 0 0 Da.zero []).cells.toArray.size) := Mg.size (Mg.mk 1 EP 0 0 0 Da.zero []) D.zero_ok
  have HSq : Hid (zero15.toArray.size = (Mg.mk 1 EP 0 0 0 Da.zero []).cells.toArray.size) := by unfold Hid; rw [List.size_toArray, List.size_toArray, Mg.cells_len _ D.zero_ok]; rfl
  have HT1h : Hid _ := HT1
  clear HT1 hb hby hl hlen ue ui
  clear hcap
  have Hn : Hid (9 ≤ len) := hn
  have hpos : 0 < len := by omega
  clear hn
  generalize rightB (Mg.mk 1 EP 0 0 0 Da.zero []) = rb at *
  unfold zero15 at *
  go_enter Try.func14, Try.ntmps14
  go_upto_region 4 with (refine at_op (.store 28 (.tmp 4) (.tmp 23)) rfl ?_; refine wpList_store_r rfl 28 (.tmp 4) (.tmp 23) rfl (w.heap.size + 1) (Mg.mk 1 0 0 0 0 Da.zero []).cells.toArray rfl rfl 28 _ Z0.2.1 Try.size28 rfl (Mg.cells_one _) ?_; intro X0 hX0; have K0 : Mk w w.heap.size (w.heap.size + 1) zero15 (Mg.mk 1 0 0 0 0 Da.zero []) X0 := mk_first Z0 hX0; clear hX0 Z0 c0; have d0 : X0.cell? ⟨w.heap.size + 1, 0, none⟩ = some (.int .i64 1) := K0.dst.cell 0)
  go_upto_region 15 with fail
  go_wp2_with fail
  refine (HT1h.out _ K0.b).mono ?_
  rintro e Xa ⟨rfl, hXa⟩
  subst hXa
  go_upto_region 31 with (refine at_op (.store 22 (.tmp 64) (.tmp 63)) rfl ?_; refine wpList_store_x rfl 22 (.tmp 64) (.tmp 63) rfl (w.heap.size + 1) 1 (.int .u64 EP) rfl rfl K0.dst (Mg.lt D.zero_ok 1 (by decide)) size22 rfl ?_; intro YK1 hY; have K1 := K0.epoch EP hY; clear hY; have dK1 : YK1.cell? ⟨w.heap.size + 1, 0, none⟩ = some (.int .i64 1) := K1.dst.cell 0)
  have KF : Mk w w.heap.size (w.heap.size + 1) zero15 (Mg.mk 1 EP 0 0 0 Da.zero []) _ := K1
  by_cases hlg : 9 < len
  · have he := Hlong.out hlg
    have hd : decide (9 < (len : Int)) = true := decide_eq_true (by omega)
    clear hlg Hlong Hjust
    go_wp2_with (refine at_op (.store 28 (.tmp 2) (.tmp 123)) rfl ?_; refine wpList_store_row rfl 28 (.tmp 2) (.tmp 123) rfl w.heap.size #[.int .i64 0, .int .u64 0, .int .u64 0, .int .i64 0, .int .i64 0, .int .u32 0, .int .u32 0, .int .u64 0, .int .u64 0, .int .u64 0, .int .u64 0, .int .u64 0, .int .u64 0, .int .u64 0, .string ⟨#[]⟩] rfl rfl 28 _ KF.src size15 rfl one15 ?_)
    exact bodyPost_ret (results_mg Try.results14 _ _ w.heap.size zero15 _ rfl (KF.src.row zero15.toArray) size15 rfl) rfl ⟨by first | rfl | (rw [he]; rfl), below_setRow KF.b (Nat.le_refl _) _⟩
  · have he := Hjust.out (by have := Hn.out; omega)
    have hd : decide (9 < (len : Int)) = false := decide_eq_false (by omega)
    clear hlg Hlong Hjust
    cases rb
    · go_wp2_with (first | (refine at_op (.load 28 (.tmp 4)) rfl ?_; refine wpList_load_row rfl 28 (.tmp 4) rfl (w.heap.size + 1) rfl 28 (Mg.mk 1 EP 0 0 0 Da.zero []).cells.toArray (0, 0) _ KF.dst Try.underlying28 rfl HZq.out ?_) | (go_at_call 12; refine (HRt.out _).mono ?_; rintro e Xg ⟨rfl, bg⟩; have KG := KF.over bg; clear KF) | (refine at_op (.store 28 (.tmp 2) (.tmp 127)) rfl ?_; refine wpList_store_row rfl 28 (.tmp 2) (.tmp 127) rfl w.heap.size #[.int .i64 0, .int .u64 0, .int .u64 0, .int .i64 0, .int .i64 0, .int .u32 0, .int .u32 0, .int .u64 0, .int .u64 0, .int .u64 0, .int .u64 0, .int .u64 0, .int .u64 0, .int .u64 0, .string ⟨#[]⟩] rfl rfl 28 _ KG.src size15 rfl one15 ?_))
      exact bodyPost_ret (results_mg Try.results14 _ _ w.heap.size zero15 _ rfl (KG.src.row zero15.toArray) size15 rfl) rfl ⟨by first | rfl | (rw [he]; rfl), below_setRow KG.b (Nat.le_refl _) _⟩
    · go_wp2_with (first | (refine at_op (.load 28 (.tmp 4)) rfl ?_; refine wpList_load_row rfl 28 (.tmp 4) rfl (w.heap.size + 1) rfl 28 (Mg.mk 1 EP 0 0 0 Da.zero []).cells.toArray (0, 0) _ KF.dst Try.underlying28 rfl HZq.out ?_) | (go_at_call 12; refine (HRt.out _).mono ?_; rintro e Xg ⟨rfl, bg⟩; have KG := KF.over bg; clear KF) | (refine at_op (.load 28 (.tmp 4)) rfl ?_; refine wpList_load_row rfl 28 (.tmp 4) rfl (w.heap.size + 1) rfl 28 (Mg.mk 1 EP 0 0 0 Da.zero []).cells.toArray (0, 0) _ KG.dst Try.underlying28 rfl HZq.out ?_) | (refine at_op (.store 28 (.tmp 2) (.tmp 128)) rfl ?_; refine wpList_store_row rfl 28 (.tmp 2) (.tmp 128) rfl w.heap.size (Mg.mk 1 EP 0 0 0 Da.zero []).cells.toArray rfl rfl 28 _ KG.src HZq.out HSq.out (Mg.cells_one _) ?_))
      exact bodyPost_ret (results_mg Try.results14 _ _ w.heap.size (Mg.mk 1 EP 0 0 0 Da.zero []).cells _ rfl (KG.src.row (Mg.mk 1 EP 0 0 0 Da.zero []).cells.toArray) HZq.out rfl) rfl ⟨by first | rfl | (rw [he]; rfl), below_setRow KG.b (Nat.le_refl _) _⟩

end Go.Proofs.Ytpdndcmaaghnjaa

namespace Go.Proofs.Ytpdndcmaaghnjaa
open Go.RowKit
open D (Da Blk)
open K (numOf textF)

set_option linter.unusedSimpArgs false in
set_option maxRecDepth 8000 in
set_option maxHeartbeats 4000000 in
theorem rd_full3 (b off len cap : Nat) (l : List Int) (w : World) (hb : K.Bs w (some ⟨b, off, none⟩) len l) (hcap : len ≤ cap) (hlen : len ≤ 2000) (hh : l.head? = some 3) (hn : 17 ≤ len) : Calls Try.prog 14 #[.slice (some ⟨b, off, none⟩) len cap] w fun e w' => e = .returned (.tuple #[(decM l).1.vl, .int .i64 (decM l).2]) ∧ Below w.heap.size w w' := by
  have hl := hb.1
  have HLen : Hid (len ≤ 2000) := hlen
  have hby : D.Byt l := hb.2.1
  have hg0 : l.getD 0 0 = 3 := by cases l with
    | nil => cases hh
    | cons x r => cases hh; rfl
  have Z0 := two_blk w zero15
  have c0 : (w.alloc (Obj.cells zero15.toArray 28)).cell? ⟨b, off, none⟩ = some (.int .u8 3) := by have := cell_at hb (room1 w (Obj.cells zero15.toArray 28)) 0 (by omega); rw [hg0] at this; exact this
  have h0 : ((len : Int) == 0) = false := beq_false_of_ne (by omega)
  have h1 : decide ((len : Int) < 17) = false := decide_eq_false (by omega)
  have hcut1 : ∀ W : World, (Instr.sliceAt 30 (.slice (some ⟨b, off, none⟩) len cap) (some (.int .i64 1)) none none).run Try.prog W = .ok (.slice (some ⟨b, off + 1, none⟩) (len - 1) (cap - 1)) W := cut_low1 b off len cap 1 (by omega) (by omega)
  have HT1 := take_at (cap := cap) hb 1 (by omega)
  have hcut9 : ∀ W : World, (Instr.sliceAt 30 (.slice (some ⟨b, off, none⟩) len cap) (some (.int .i64 9)) none none).run Try.prog W = .ok (.slice (some ⟨b, off + 9, none⟩) (len - 9) (cap - 9)) W := cut_low1 b off len cap 9 (by omega) (by omega)
  have HT9 := take_at (cap := cap) hb 9 (by omega)
  have ue := num_u8 (byt_sub hby 1 8) (by rw [List.length_take]; exact Nat.min_le_left _ _)
  have ui := num_u8 (byt_sub hby 9 8) (by rw [List.length_take]; exact Nat.min_le_left _ _)
  have hneed : need 3 = 17 := rfl
  have hsize : size 3 l = 17 := rfl
  have Hlong : Hid (size 3 l < len → decM l = (Mg.zero, 3)) := fun h => tell_long hh ⟨by decide, by decide⟩ hby (by rw [hneed, hl]; exact hn) (by rw [hl]; exact h)
  have Hjust : Hid (size 3 l = len → decM l = if rightB (rd 3 l) = true then (rd 3 l, 0) else (Mg.zero, 1)) := fun h => tell_just hh ⟨by decide, by decide⟩ hby (by rw [hneed, hl]; exact hn) (by rw [hl]; exact h)
  have hrd : rd 3 l = ⟨3, numOf ((l.drop 1).take 8), numOf ((l.drop 9).take 8), 0, 0, Da.zero, []⟩ := by
    rfl
  rw [hsize] at Hlong Hjust
  rw [hrd] at Hjust
  clear hrd hh hneed hsize hg0
  generalize decM l = dm at *
  generalize numOf ((l.drop 1).take 8) = EP at *
  generalize numOf ((l.drop 9).take 8) = ID at *
  have HRt : Hid (∀ W : World, Calls Try.prog 12 #[.agg (Mg.mk 3 EP ID 0 0 Da.zero []).cells.toArray] W fun e w' => e = .returned (.bool (rightB (Mg.mk 3 EP ID 0 0 Da.zero []))) ∧ Below W.heap.size W w') := fun W => refRight_any (Mg.mk 3 EP ID 0 0 Da.zero []) W D.zero_ok (fun z hz => by cases hz)
  have HZq : Hid ((Try.prog.info? 28).map (·.size) = some (Mg.mk 3 EP ID 0 0 Da.zero []).cells.toArray.size) := Mg.size (Mg.mk 3 EP ID 0 0 Da.zero []) D.zero_ok
  have HSq : Hid (zero15.toArray.size = (Mg.mk 3 EP ID 0 0 Da.zero []).cells.toArray.size) := by unfold Hid; rw [List.size_toArray, List.size_toArray, Mg.cells_len _ D.zero_ok]; rfl
  have HT1h : Hid _ := HT1
  clear HT1 hb hby hl hlen ue ui
  clear hcap
  have Hn : Hid (17 ≤ len) := hn
  have hpos : 0 < len := by omega
  clear hn
  generalize rightB (Mg.mk 3 EP ID 0 0 Da.zero []) = rb at *
  unfold zero15 at *
  go_enter Try.func14, Try.ntmps14
  go_upto_region 4 with (refine at_op (.store 28 (.tmp 4) (.tmp 23)) rfl ?_; refine wpList_store_r rfl 28 (.tmp 4) (.tmp 23) rfl (w.heap.size + 1) (Mg.mk 3 0 0 0 0 Da.zero []).cells.toArray rfl rfl 28 _ Z0.2.1 Try.size28 rfl (Mg.cells_one _) ?_; intro X0 hX0; have K0 : Mk w w.heap.size (w.heap.size + 1) zero15 (Mg.mk 3 0 0 0 0 Da.zero []) X0 := mk_first Z0 hX0; clear hX0 Z0 c0; have d0 : X0.cell? ⟨w.heap.size + 1, 0, none⟩ = some (.int .i64 3) := K0.dst.cell 0)
  go_upto_region 15 with fail
  go_wp2_with fail
  refine (HT1h.out _ K0.b).mono ?_
  rintro e Xa ⟨rfl, hXa⟩
  subst hXa
  go_wp2_with (refine at_op (.store 22 (.tmp 64) (.tmp 63)) rfl ?_; refine wpList_store_x rfl 22 (.tmp 64) (.tmp 63) rfl (w.heap.size + 1) 1 (.int .u64 EP) rfl rfl K0.dst (Mg.lt D.zero_ok 1 (by decide)) size22 rfl ?_; intro YK1 hY; have K1 := K0.epoch EP hY; clear hY; have dK1 : YK1.cell? ⟨w.heap.size + 1, 0, none⟩ = some (.int .i64 3) := K1.dst.cell 0)
  refine (HT9 _ K1.b).mono ?_
  rintro e Xb ⟨rfl, hXb⟩
  subst hXb
  go_upto_region 31 with (refine at_op (.store 22 (.tmp 75) (.tmp 74)) rfl ?_; refine wpList_store_x rfl 22 (.tmp 75) (.tmp 74) rfl (w.heap.size + 1) 2 (.int .u64 ID) rfl rfl K1.dst (Mg.lt D.zero_ok 2 (by decide)) size22 rfl ?_; intro YK2 hY; have K2 := K1.id ID hY; clear hY; have dK2 : YK2.cell? ⟨w.heap.size + 1, 0, none⟩ = some (.int .i64 3) := K2.dst.cell 0)
  have KF : Mk w w.heap.size (w.heap.size + 1) zero15 (Mg.mk 3 EP ID 0 0 Da.zero []) _ := K2
  by_cases hlg : 17 < len
  · have he := Hlong.out hlg
    have hd : decide (17 < (len : Int)) = true := decide_eq_true (by omega)
    clear hlg Hlong Hjust
    go_wp2_with (refine at_op (.store 28 (.tmp 2) (.tmp 123)) rfl ?_; refine wpList_store_row rfl 28 (.tmp 2) (.tmp 123) rfl w.heap.size #[.int .i64 0, .int .u64 0, .int .u64 0, .int .i64 0, .int .i64 0, .int .u32 0, .int .u32 0, .int .u64 0, .int .u64 0, .int .u64 0, .int .u64 0, .int .u64 0, .int .u64 0, .int .u64 0, .string ⟨#[]⟩] rfl rfl 28 _ KF.src size15 rfl one15 ?_)
    exact bodyPost_ret (results_mg Try.results14 _ _ w.heap.size zero15 _ rfl (KF.src.row zero15.toArray) size15 rfl) rfl ⟨by first | rfl | (rw [he]; rfl), below_setRow KF.b (Nat.le_refl _) _⟩
  · have he := Hjust.out (by have := Hn.out; omega)
    have hd : decide (17 < (len : Int)) = false := decide_eq_false (by omega)
    clear hlg Hlong Hjust
    cases rb
    · go_wp2_with (first | (refine at_op (.load 28 (.tmp 4)) rfl ?_; refine wpList_load_row rfl 28 (.tmp 4) rfl (w.heap.size + 1) rfl 28 (Mg.mk 3 EP ID 0 0 Da.zero []).cells.toArray (0, 0) _ KF.dst Try.underlying28 rfl HZq.out ?_) | (go_at_call 12; refine (HRt.out _).mono ?_; rintro e Xg ⟨rfl, bg⟩; have KG := KF.over bg; clear KF) | (refine at_op (.store 28 (.tmp 2) (.tmp 127)) rfl ?_; refine wpList_store_row rfl 28 (.tmp 2) (.tmp 127) rfl w.heap.size #[.int .i64 0, .int .u64 0, .int .u64 0, .int .i64 0, .int .i64 0, .int .u32 0, .int .u32 0, .int .u64 0, .int .u64 0, .int .u64 0, .int .u64 0, .int .u64 0, .int .u64 0, .int .u64 0, .string ⟨#[]⟩] rfl rfl 28 _ KG.src size15 rfl one15 ?_))
      exact bodyPost_ret (results_mg Try.results14 _ _ w.heap.size zero15 _ rfl (KG.src.row zero15.toArray) size15 rfl) rfl ⟨by first | rfl | (rw [he]; rfl), below_setRow KG.b (Nat.le_refl _) _⟩
    · go_wp2_with (first | (refine at_op (.load 28 (.tmp 4)) rfl ?_; refine wpList_load_row rfl 28 (.tmp 4) rfl (w.heap.size + 1) rfl 28 (Mg.mk 3 EP ID 0 0 Da.zero []).cells.toArray (0, 0) _ KF.dst Try.underlying28 rfl HZq.out ?_) | (go_at_call 12; refine (HRt.out _).mono ?_; rintro e Xg ⟨rfl, bg⟩; have KG := KF.over bg; clear KF) | (refine at_op (.load 28 (.tmp 4)) rfl ?_; refine wpList_load_row rfl 28 (.tmp 4) rfl (w.heap.size + 1) rfl 28 (Mg.mk 3 EP ID 0 0 Da.zero []).cells.toArray (0, 0) _ KG.dst Try.underlying28 rfl HZq.out ?_) | (refine at_op (.store 28 (.tmp 2) (.tmp 128)) rfl ?_; refine wpList_store_row rfl 28 (.tmp 2) (.tmp 128) rfl w.heap.size (Mg.mk 3 EP ID 0 0 Da.zero []).cells.toArray rfl rfl 28 _ KG.src HZq.out HSq.out (Mg.cells_one _) ?_))
      exact bodyPost_ret (results_mg Try.results14 _ _ w.heap.size (Mg.mk 3 EP ID 0 0 Da.zero []).cells _ rfl (KG.src.row (Mg.mk 3 EP ID 0 0 Da.zero []).cells.toArray) HZq.out rfl) rfl ⟨by first | rfl | (rw [he]; rfl), below_setRow KG.b (Nat.le_refl _) _⟩

end Go.Proofs.Ytpdndcmaaghnjaa

namespace Go.Proofs.Ytpdndcmaaghnjaa
open Go.RowKit
open D (Da Blk)
open K (numOf textF)

set_option linter.unusedSimpArgs false in
set_option maxRecDepth 8000 in
set_option maxHeartbeats 4000000 in
theorem rd_full6 (b off len cap : Nat) (l : List Int) (w : World) (hb : K.Bs w (some ⟨b, off, none⟩) len l) (hcap : len ≤ cap) (hlen : len ≤ 2000) (hh : l.head? = some 6) (hn : 17 ≤ len) : Calls Try.prog 14 #[.slice (some ⟨b, off, none⟩) len cap] w fun e w' => e = .returned (.tuple #[(decM l).1.vl, .int .i64 (decM l).2]) ∧ Below w.heap.size w w' := by
  have hl := hb.1
  have HLen : Hid (len ≤ 2000) := hlen
  have hby : D.Byt l := hb.2.1
  have hg0 : l.getD 0 0 = 6 := by cases l with
    | nil => cases hh
    | cons x r => cases hh; rfl
  have Z0 := two_blk w zero15
  have c0 : (w.alloc (Obj.cells zero15.toArray 28)).cell? ⟨b, off, none⟩ = some (.int .u8 6) := by have := cell_at hb (room1 w (Obj.cells zero15.toArray 28)) 0 (by omega); rw [hg0] at this; exact this
  have h0 : ((len : Int) == 0) = false := beq_false_of_ne (by omega)
  have h1 : decide ((len : Int) < 17) = false := decide_eq_false (by omega)
  have hcut1 : ∀ W : World, (Instr.sliceAt 30 (.slice (some ⟨b, off, none⟩) len cap) (some (.int .i64 1)) none none).run Try.prog W = .ok (.slice (some ⟨b, off + 1, none⟩) (len - 1) (cap - 1)) W := cut_low1 b off len cap 1 (by omega) (by omega)
  have HT1 := take_at (cap := cap) hb 1 (by omega)
  have hcut9 : ∀ W : World, (Instr.sliceAt 30 (.slice (some ⟨b, off, none⟩) len cap) (some (.int .i64 9)) none none).run Try.prog W = .ok (.slice (some ⟨b, off + 9, none⟩) (len - 9) (cap - 9)) W := cut_low1 b off len cap 9 (by omega) (by omega)
  have HT9 := take_at (cap := cap) hb 9 (by omega)
  have ue := num_u8 (byt_sub hby 1 8) (by rw [List.length_take]; exact Nat.min_le_left _ _)
  have ui := num_u8 (byt_sub hby 9 8) (by rw [List.length_take]; exact Nat.min_le_left _ _)
  have hneed : need 6 = 17 := rfl
  have hsize : size 6 l = 17 := rfl
  have Hlong : Hid (size 6 l < len → decM l = (Mg.zero, 3)) := fun h => tell_long hh ⟨by decide, by decide⟩ hby (by rw [hneed, hl]; exact hn) (by rw [hl]; exact h)
  have Hjust : Hid (size 6 l = len → decM l = if rightB (rd 6 l) = true then (rd 6 l, 0) else (Mg.zero, 1)) := fun h => tell_just hh ⟨by decide, by decide⟩ hby (by rw [hneed, hl]; exact hn) (by rw [hl]; exact h)
  have hrd : rd 6 l = ⟨6, numOf ((l.drop 1).take 8), numOf ((l.drop 9).take 8), 0, 0, Da.zero, []⟩ := by
    rfl
  rw [hsize] at Hlong Hjust
  rw [hrd] at Hjust
  clear hrd hh hneed hsize hg0
  generalize decM l = dm at *
  generalize numOf ((l.drop 1).take 8) = EP at *
  generalize numOf ((l.drop 9).take 8) = ID at *
  have HRt : Hid (∀ W : World, Calls Try.prog 12 #[.agg (Mg.mk 6 EP ID 0 0 Da.zero []).cells.toArray] W fun e w' => e = .returned (.bool (rightB (Mg.mk 6 EP ID 0 0 Da.zero []))) ∧ Below W.heap.size W w') := fun W => refRight_any (Mg.mk 6 EP ID 0 0 Da.zero []) W D.zero_ok (fun z hz => by cases hz)
  have HZq : Hid ((Try.prog.info? 28).map (·.size) = some (Mg.mk 6 EP ID 0 0 Da.zero []).cells.toArray.size) := Mg.size (Mg.mk 6 EP ID 0 0 Da.zero []) D.zero_ok
  have HSq : Hid (zero15.toArray.size = (Mg.mk 6 EP ID 0 0 Da.zero []).cells.toArray.size) := by unfold Hid; rw [List.size_toArray, List.size_toArray, Mg.cells_len _ D.zero_ok]; rfl
  have HT1h : Hid _ := HT1
  clear HT1 hb hby hl hlen ue ui
  clear hcap
  have Hn : Hid (17 ≤ len) := hn
  have hpos : 0 < len := by omega
  clear hn
  generalize rightB (Mg.mk 6 EP ID 0 0 Da.zero []) = rb at *
  unfold zero15 at *
  go_enter Try.func14, Try.ntmps14
  go_upto_region 4 with (refine at_op (.store 28 (.tmp 4) (.tmp 23)) rfl ?_; refine wpList_store_r rfl 28 (.tmp 4) (.tmp 23) rfl (w.heap.size + 1) (Mg.mk 6 0 0 0 0 Da.zero []).cells.toArray rfl rfl 28 _ Z0.2.1 Try.size28 rfl (Mg.cells_one _) ?_; intro X0 hX0; have K0 : Mk w w.heap.size (w.heap.size + 1) zero15 (Mg.mk 6 0 0 0 0 Da.zero []) X0 := mk_first Z0 hX0; clear hX0 Z0 c0; have d0 : X0.cell? ⟨w.heap.size + 1, 0, none⟩ = some (.int .i64 6) := K0.dst.cell 0)
  go_upto_region 15 with fail
  go_wp2_with fail
  refine (HT1h.out _ K0.b).mono ?_
  rintro e Xa ⟨rfl, hXa⟩
  subst hXa
  go_wp2_with (refine at_op (.store 22 (.tmp 64) (.tmp 63)) rfl ?_; refine wpList_store_x rfl 22 (.tmp 64) (.tmp 63) rfl (w.heap.size + 1) 1 (.int .u64 EP) rfl rfl K0.dst (Mg.lt D.zero_ok 1 (by decide)) size22 rfl ?_; intro YK1 hY; have K1 := K0.epoch EP hY; clear hY; have dK1 : YK1.cell? ⟨w.heap.size + 1, 0, none⟩ = some (.int .i64 6) := K1.dst.cell 0)
  refine (HT9 _ K1.b).mono ?_
  rintro e Xb ⟨rfl, hXb⟩
  subst hXb
  go_upto_region 31 with (refine at_op (.store 22 (.tmp 75) (.tmp 74)) rfl ?_; refine wpList_store_x rfl 22 (.tmp 75) (.tmp 74) rfl (w.heap.size + 1) 2 (.int .u64 ID) rfl rfl K1.dst (Mg.lt D.zero_ok 2 (by decide)) size22 rfl ?_; intro YK2 hY; have K2 := K1.id ID hY; clear hY; have dK2 : YK2.cell? ⟨w.heap.size + 1, 0, none⟩ = some (.int .i64 6) := K2.dst.cell 0)
  have KF : Mk w w.heap.size (w.heap.size + 1) zero15 (Mg.mk 6 EP ID 0 0 Da.zero []) _ := K2
  by_cases hlg : 17 < len
  · have he := Hlong.out hlg
    have hd : decide (17 < (len : Int)) = true := decide_eq_true (by omega)
    clear hlg Hlong Hjust
    go_wp2_with (refine at_op (.store 28 (.tmp 2) (.tmp 123)) rfl ?_; refine wpList_store_row rfl 28 (.tmp 2) (.tmp 123) rfl w.heap.size #[.int .i64 0, .int .u64 0, .int .u64 0, .int .i64 0, .int .i64 0, .int .u32 0, .int .u32 0, .int .u64 0, .int .u64 0, .int .u64 0, .int .u64 0, .int .u64 0, .int .u64 0, .int .u64 0, .string ⟨#[]⟩] rfl rfl 28 _ KF.src size15 rfl one15 ?_)
    exact bodyPost_ret (results_mg Try.results14 _ _ w.heap.size zero15 _ rfl (KF.src.row zero15.toArray) size15 rfl) rfl ⟨by first | rfl | (rw [he]; rfl), below_setRow KF.b (Nat.le_refl _) _⟩
  · have he := Hjust.out (by have := Hn.out; omega)
    have hd : decide (17 < (len : Int)) = false := decide_eq_false (by omega)
    clear hlg Hlong Hjust
    cases rb
    · go_wp2_with (first | (refine at_op (.load 28 (.tmp 4)) rfl ?_; refine wpList_load_row rfl 28 (.tmp 4) rfl (w.heap.size + 1) rfl 28 (Mg.mk 6 EP ID 0 0 Da.zero []).cells.toArray (0, 0) _ KF.dst Try.underlying28 rfl HZq.out ?_) | (go_at_call 12; refine (HRt.out _).mono ?_; rintro e Xg ⟨rfl, bg⟩; have KG := KF.over bg; clear KF) | (refine at_op (.store 28 (.tmp 2) (.tmp 127)) rfl ?_; refine wpList_store_row rfl 28 (.tmp 2) (.tmp 127) rfl w.heap.size #[.int .i64 0, .int .u64 0, .int .u64 0, .int .i64 0, .int .i64 0, .int .u32 0, .int .u32 0, .int .u64 0, .int .u64 0, .int .u64 0, .int .u64 0, .int .u64 0, .int .u64 0, .int .u64 0, .string ⟨#[]⟩] rfl rfl 28 _ KG.src size15 rfl one15 ?_))
      exact bodyPost_ret (results_mg Try.results14 _ _ w.heap.size zero15 _ rfl (KG.src.row zero15.toArray) size15 rfl) rfl ⟨by first | rfl | (rw [he]; rfl), below_setRow KG.b (Nat.le_refl _) _⟩
    · go_wp2_with (first | (refine at_op (.load 28 (.tmp 4)) rfl ?_; refine wpList_load_row rfl 28 (.tmp 4) rfl (w.heap.size + 1) rfl 28 (Mg.mk 6 EP ID 0 0 Da.zero []).cells.toArray (0, 0) _ KF.dst Try.underlying28 rfl HZq.out ?_) | (go_at_call 12; refine (HRt.out _).mono ?_; rintro e Xg ⟨rfl, bg⟩; have KG := KF.over bg; clear KF) | (refine at_op (.load 28 (.tmp 4)) rfl ?_; refine wpList_load_row rfl 28 (.tmp 4) rfl (w.heap.size + 1) rfl 28 (Mg.mk 6 EP ID 0 0 Da.zero []).cells.toArray (0, 0) _ KG.dst Try.underlying28 rfl HZq.out ?_) | (refine at_op (.store 28 (.tmp 2) (.tmp 128)) rfl ?_; refine wpList_store_row rfl 28 (.tmp 2) (.tmp 128) rfl w.heap.size (Mg.mk 6 EP ID 0 0 Da.zero []).cells.toArray rfl rfl 28 _ KG.src HZq.out HSq.out (Mg.cells_one _) ?_))
      exact bodyPost_ret (results_mg Try.results14 _ _ w.heap.size (Mg.mk 6 EP ID 0 0 Da.zero []).cells _ rfl (KG.src.row (Mg.mk 6 EP ID 0 0 Da.zero []).cells.toArray) HZq.out rfl) rfl ⟨by first | rfl | (rw [he]; rfl), below_setRow KG.b (Nat.le_refl _) _⟩

end Go.Proofs.Ytpdndcmaaghnjaa

