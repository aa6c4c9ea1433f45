/-
  The message of bytes, by the document: kind 2.
-/
import Derived.Test.YtpdndcmaaghnjaaMsDrS
namespace Go.Proofs.Ytpdndcmaaghnjaa
open Go.RowKit
open D (Da Blk)
open K (numOf textF)

set_option linter.unusedSimpArgs false in
set_option maxRecDepth 8000 in
set_option maxHeartbeats 4000000 in
theorem rd_full2 (b off len cap : Nat) (l : List Int) (w : World) (hb : K.Bs w (some ⟨b, off, none⟩) len l) (hcap : len ≤ cap) (hlen : len ≤ 2000) (hh : l.head? = some 2) (hn : 84 ≤ len) : Calls Try.prog 14 #[.slice (some ⟨b, off, none⟩) len cap] w fun e w' => e = .returned (.tuple #[(decM l).1.vl, .int .i64 (decM l).2]) ∧ Below w.heap.size w w' := by
  have hl := hb.1
  have HLen : Hid (len ≤ 2000) := hlen
  have hby : D.Byt l := hb.2.1
  have hg0 : l.getD 0 0 = 2 := by cases l with
    | nil => cases hh
    | cons x r => cases hh; rfl
  have Z0 := two_blk w zero15
  have c0 : (w.alloc (Obj.cells zero15.toArray 28)).cell? ⟨b, off, none⟩ = some (.int .u8 2) := by have := cell_at hb (room1 w (Obj.cells zero15.toArray 28)) 0 (by omega); rw [hg0] at this; exact this
  have h0 : ((len : Int) == 0) = false := beq_false_of_ne (by omega)
  have h1 : decide ((len : Int) < 84) = false := decide_eq_false (by omega)
  have hcut1 : ∀ W : World, (Instr.sliceAt 30 (.slice (some ⟨b, off, none⟩) len cap) (some (.int .i64 1)) none none).run Try.prog W = .ok (.slice (some ⟨b, off + 1, none⟩) (len - 1) (cap - 1)) W := cut_low1 b off len cap 1 (by omega) (by omega)
  have HT1 := take_at (cap := cap) hb 1 (by omega)
  have hcut9 : ∀ W : World, (Instr.sliceAt 30 (.slice (some ⟨b, off, none⟩) len cap) (some (.int .i64 9)) none none).run Try.prog W = .ok (.slice (some ⟨b, off + 9, none⟩) (len - 9) (cap - 9)) W := cut_low1 b off len cap 9 (by omega) (by omega)
  have HT9 := take_at (cap := cap) hb 9 (by omega)
  have ue := num_u8 (byt_sub hby 1 8) (by rw [List.length_take]; exact Nat.min_le_left _ _)
  have ui := num_u8 (byt_sub hby 9 8) (by rw [List.length_take]; exact Nat.min_le_left _ _)
  have hneed : need 2 = 84 := rfl
  have hsize : size 2 l = 84 + (numOf ((l.drop 82).take 2)).toNat := if_pos rfl
  have Hlong : Hid (size 2 l < len → decM l = (Mg.zero, 3)) := fun h => tell_long hh ⟨by decide, by decide⟩ hby (by rw [hneed, hl]; exact hn) (by rw [hl]; exact h)
  have Hjust : Hid (size 2 l = len → decM l = if rightB (rd 2 l) = true then (rd 2 l, 0) else (Mg.zero, 1)) := fun h => tell_just hh ⟨by decide, by decide⟩ hby (by rw [hneed, hl]; exact hn) (by rw [hl]; exact h)
  have Hshort : Hid (len < size 2 l → decM l = (Mg.zero, 2)) := fun h => tell_short hh ⟨by decide, by decide⟩ hby (.inr (by rw [hl]; exact h))
  have hc17 := fun X hX => cell_at (X := X) hb hX 17 (by omega)
  have y17 := D.byt_get hby 17
  have hcutD := cut_both b off len cap (by omega)
  have HD := fun X hX => D.refOf_any (some ⟨b, off + 18, none⟩) 64 (cap - 18) ((l.drop 18).take 64) X (bs_from hb hX 18 64 (by omega)) (by omega)
  have hdok := D.decOf_ok _ (byt_sub hby 18 64)
  have hcut82 : ∀ W : World, (Instr.sliceAt 30 (.slice (some ⟨b, off, none⟩) len cap) (some (.int .i64 82)) none none).run Try.prog W = .ok (.slice (some ⟨b, off + 82, none⟩) (len - 82) (cap - 82)) W := cut_low1 b off len cap 82 (by omega) (by omega)
  have HX := fun X hX => K.takeText_any (some ⟨b, off + 82, none⟩) (len - 82) (cap - 82) (l.drop 82) X (by omega) (by omega) (bs_tail hb hX 82 (by omega))
  have htx := text_at l (by omega : 84 ≤ l.length)
  rw [hl] at htx
  have hpb : D.Byt (textF (l.drop 82)).1 := text_byt hby
  have hrd : 84 + (numOf ((l.drop 82).take 2)).toNat ≤ len → rd 2 l = ⟨2, numOf ((l.drop 1).take 8), numOf ((l.drop 9).take 8), l.getD 17 0, 0, D.decOf ((l.drop 18).take 64), (textF (l.drop 82)).1⟩ := by
    intro hle
    rw [← (htx.1 (by omega)).1]
    rfl
  rw [hsize] at Hlong Hjust Hshort
  have Hjust : Hid (84 + (numOf ((l.drop 82).take 2)).toNat = len → decM l = if rightB ⟨2, numOf ((l.drop 1).take 8), numOf ((l.drop 9).take 8), l.getD 17 0, 0, D.decOf ((l.drop 18).take 64), (textF (l.drop 82)).1⟩ = true then (⟨2, numOf ((l.drop 1).take 8), numOf ((l.drop 9).take 8), l.getD 17 0, 0, D.decOf ((l.drop 18).take 64), (textF (l.drop 82)).1⟩, 0) else (Mg.zero, 1)) := fun h => by rw [← hrd (by omega)]; exact Hjust.out h
  clear hrd hh hneed hsize hg0
  generalize decM l = dm at *
  generalize numOf ((l.drop 1).take 8) = EP at *
  generalize numOf ((l.drop 9).take 8) = ID at *
  generalize l.getD 17 0 = TK at *
  have hm1 : IntKind.i64.wrap TK = TK := by rw [IntKind.wrap_i64]; omega
  clear y17
  generalize D.decOf ((l.drop 18).take 64) = DD at *
  generalize (numOf ((l.drop 82).take 2)).toNat = nn at *
  generalize textF (l.drop 82) = tf at *
  obtain ⟨PP, tn, te⟩ := tf
  dsimp only at *
  have HDo : Hid DD.ok := hdok
  have HDz := Mg.size26 DD hdok
  have HPb : Hid (D.Byt PP) := hpb
  have HRt : Hid (∀ W : World, Calls Try.prog 12 #[.agg (Mg.mk 2 EP ID TK 0 DD PP).cells.toArray] W fun e w' => e = .returned (.bool (rightB (Mg.mk 2 EP ID TK 0 DD PP))) ∧ Below W.heap.size W w') := fun W => refRight_any (Mg.mk 2 EP ID TK 0 DD PP) W hdok hpb
  have HZq : Hid ((Try.prog.info? 28).map (·.size) = some (Mg.mk 2 EP ID TK 0 DD PP).cells.toArray.size) := Mg.size (Mg.mk 2 EP ID TK 0 DD PP) hdok
  have HSq : Hid (zero15.toArray.size = (Mg.mk 2 EP ID TK 0 DD PP).cells.toArray.size) := by unfold Hid; rw [List.size_toArray, List.size_toArray, Mg.cells_len _ hdok]; rfl
  have HT1h : Hid _ := HT1
  clear HT1 hb hby hl hlen ue ui hdok hpb
  clear hcap
  have Hn : Hid (84 ≤ len) := hn
  have hpos : 0 < len := by omega
  have h17 : (17 : Int) < (len : Int) := by omega
  clear hn
  generalize rightB (Mg.mk 2 EP ID TK 0 DD PP) = rb at *
  unfold zero15 at *
  go_enter Try.func14, Try.ntmps14
  go_upto_region 4 with (refine at_op (.store 28 (.tmp 4) (.tmp 23)) rfl ?_; refine wpList_store_r rfl 28 (.tmp 4) (.tmp 23) rfl (w.heap.size + 1) (Mg.mk 2 0 0 0 0 Da.zero []).cells.toArray rfl rfl 28 _ Z0.2.1 Try.size28 rfl (Mg.cells_one _) ?_; intro X0 hX0; have K0 : Mk w w.heap.size (w.heap.size + 1) zero15 (Mg.mk 2 0 0 0 0 Da.zero []) X0 := mk_first Z0 hX0; clear hX0 Z0 c0; have d0 : X0.cell? ⟨w.heap.size + 1, 0, none⟩ = some (.int .i64 2) := K0.dst.cell 0)
  go_upto_region 15 with fail
  go_wp2_with fail
  refine (HT1h.out _ K0.b).mono ?_
  rintro e Xa ⟨rfl, hXa⟩
  subst hXa
  go_wp2_with (refine at_op (.store 22 (.tmp 64) (.tmp 63)) rfl ?_; refine wpList_store_x rfl 22 (.tmp 64) (.tmp 63) rfl (w.heap.size + 1) 1 (.int .u64 EP) rfl rfl K0.dst (Mg.lt D.zero_ok 1 (by decide)) size22 rfl ?_; intro YK1 hY; have K1 := K0.epoch EP hY; clear hY; have dK1 : YK1.cell? ⟨w.heap.size + 1, 0, none⟩ = some (.int .i64 2) := K1.dst.cell 0)
  refine (HT9 _ K1.b).mono ?_
  rintro e Xb ⟨rfl, hXb⟩
  subst hXb
  go_wp2_with (first | (refine at_op (.store 22 (.tmp 75) (.tmp 74)) rfl ?_; refine wpList_store_x rfl 22 (.tmp 75) (.tmp 74) rfl (w.heap.size + 1) 2 (.int .u64 ID) rfl rfl K1.dst (Mg.lt D.zero_ok 2 (by decide)) size22 rfl ?_; intro YK2 hY; have K2 := K1.id ID hY; clear hY; have dK2 : YK2.cell? ⟨w.heap.size + 1, 0, none⟩ = some (.int .i64 2) := K2.dst.cell 0; have c17 := hc17 _ K2.b) | (refine at_op (.store 3 (.tmp 96) (.tmp 95)) rfl ?_; refine wpList_store_x rfl 3 (.tmp 96) (.tmp 95) rfl (w.heap.size + 1) 3 (.int .i64 TK) rfl rfl K2.dst (Mg.lt D.zero_ok 3 (by decide)) size3 rfl ?_; intro YK3 hY; have K3 := K2.task TK hY; clear hY; have dK3 : YK3.cell? ⟨w.heap.size + 1, 0, none⟩ = some (.int .i64 2) := K3.dst.cell 0))
  refine (HD _ K3.b).mono ?_
  rintro e X4 ⟨rfl, b4⟩
  have K4 := K3.over b4
  have Zd := D.blk_new X4 #[.int .u32 0, .int .u32 0, .int .u64 0, .int .u64 0, .int .u64 0, .int .u64 0, .int .u64 0, .int .u64 0, .int .u64 0] 26
  have HD9 : Hid ((#[.int .u32 0, .int .u32 0, .int .u64 0, .int .u64 0, .int .u64 0, .int .u64 0, .int .u64 0, .int .u64 0, .int .u64 0] : Array Value).size = DD.cells.toArray.size) := by unfold Hid; rw [List.size_toArray, List.size_toArray, DD.cells_len HDo.out]; rfl
  go_wp2_with (first | (refine at_op (.store 26 (.tmp 10) (.tmp 101)) rfl ?_; refine wpList_store_r rfl 26 (.tmp 10) (.tmp 101) rfl X4.heap.size DD.cells.toArray rfl rfl 26 _ Zd HDz (HD9.out) DD.cells_one ?_; intro X5 hX5; have K5 : Mk w w.heap.size (w.heap.size + 1) zero15 _ X5 := hX5 ▸ K4.over (below_setRow (room1 X4 _) (Nat.le_refl _) _); have Z5 : Blk X5 X4.heap.size 26 DD.cells := hX5 ▸ Blk.row Zd _; clear hX5) | (refine at_op (.load 26 (.tmp 10)) rfl ?_; refine wpList_load_row rfl 26 (.tmp 10) rfl X4.heap.size rfl 26 DD.cells.toArray (0, 0) _ Z5 Try.underlying26 rfl HDz ?_) | (refine at_op (.store 26 (.tmp 104) (.tmp 103)) rfl ?_; refine wpList_store_m rfl 26 (.tmp 104) (.tmp 103) rfl (w.heap.size + 1) 5 DD.cells.toArray rfl rfl (K5.there D.zero_ok DD HDo.out) HDz DD.cells_one ?_; intro X6 hX6; have K6 := K5.data D.zero_ok DD HDo.out hX6; clear hX6))
  refine (HX _ K6.b).mono ?_
  rintro e Xc ⟨rfl, hXc⟩
  subst hXc
  by_cases hte : 84 + nn ≤ len
  case neg =>
    obtain ⟨rfl, rfl⟩ := htx.2 hte
    have he := Hshort.out (by omega)
    clear htx hte Hshort Hlong Hjust
    have hq2 : ((2 : Int) != 0) = true := rfl
    go_wp2_with (refine at_op (.store 28 (.tmp 2) (.tmp 114)) rfl ?_; refine wpList_store_row rfl 28 (.tmp 2) (.tmp 114) rfl w.heap.size #[.int .i64 0, .int .u64 0, .int .u64 0, .int .i64 0, .int .i64 0, .int .u32 0, .int .u32 0, .int .u64 0, .int .u64 0, .int .u64 0, .int .u64 0, .int .u64 0, .int .u64 0, .int .u64 0, .string ⟨#[]⟩] rfl rfl 28 _ K6.src size15 rfl one15 ?_)
    exact bodyPost_ret (results_mg Try.results14 _ _ w.heap.size zero15 _ rfl (K6.src.row zero15.toArray) size15 rfl) rfl ⟨by first | rfl | (rw [he]; rfl), below_setRow K6.b (Nat.le_refl _) _⟩
  obtain ⟨_, htn, rfl⟩ := htx.1 hte
  have d6 := (K6.dst.cell 0).trans (show _ = some (Value.int .i64 2) from rfl)
  obtain ⟨SZ, hSZ⟩ : ∃ z : Nat, z = 84 + nn := ⟨_, rfl⟩
  have hszw : IntKind.i64.wrap (82 + (tn : Int)) = (SZ : Int) := by have := HLen.out; rw [IntKind.wrap_i64]; omega
  have HSZ : Hid (SZ = 84 + nn) := hSZ
  have Hn : Hid (84 + nn ≤ len) := hte
  clear htn hSZ
  clear htx hte Hshort
  go_upto_region 31 with (refine at_op (.store 9 (.tmp 116) (.tmp 115)) rfl ?_; refine wpList_store_x rfl 9 (.tmp 116) (.tmp 115) rfl (w.heap.size + 1) 14 (.string (strOfNums PP)) rfl rfl K6.dst (Mg.lt HDo.out 14 (by decide)) size9 rfl ?_; intro Y7 hY; have K7 := K6.path HDo.out PP hY; clear hY)
  have KF : Mk w w.heap.size (w.heap.size + 1) zero15 (Mg.mk 2 EP ID TK 0 DD PP) _ := K7
  by_cases hlg : 84 + nn < len
  · have he := Hlong.out hlg
    have hd : decide ((SZ : Int) < (len : Int)) = true := decide_eq_true (by have := HSZ.out; omega)
    have hd2 : decide (SZ < len) = true := decide_eq_true (by have := HSZ.out; omega)
    clear hlg Hlong Hjust
    go_wp2_with (refine at_op (.store 28 (.tmp 2) (.tmp 123)) rfl ?_; refine wpList_store_row rfl 28 (.tmp 2) (.tmp 123) rfl w.heap.size #[.int .i64 0, .int .u64 0, .int .u64 0, .int .i64 0, .int .i64 0, .int .u32 0, .int .u32 0, .int .u64 0, .int .u64 0, .int .u64 0, .int .u64 0, .int .u64 0, .int .u64 0, .int .u64 0, .string ⟨#[]⟩] rfl rfl 28 _ KF.src size15 rfl one15 ?_)
    exact bodyPost_ret (results_mg Try.results14 _ _ w.heap.size zero15 _ rfl (KF.src.row zero15.toArray) size15 rfl) rfl ⟨by first | rfl | (rw [he]; rfl), below_setRow KF.b (Nat.le_refl _) _⟩
  · have he := Hjust.out (by have := Hn.out; omega)
    have hd : decide ((SZ : Int) < (len : Int)) = false := decide_eq_false (by have := HSZ.out; omega)
    have hd2 : decide (SZ < len) = false := decide_eq_false (by have := HSZ.out; omega)
    clear hlg Hlong Hjust
    cases rb
    · go_wp2_with (first | (refine at_op (.load 28 (.tmp 4)) rfl ?_; refine wpList_load_row rfl 28 (.tmp 4) rfl (w.heap.size + 1) rfl 28 (Mg.mk 2 EP ID TK 0 DD PP).cells.toArray (0, 0) _ KF.dst Try.underlying28 rfl HZq.out ?_) | (go_at_call 12; refine (HRt.out _).mono ?_; rintro e Xg ⟨rfl, bg⟩; have KG := KF.over bg; clear KF) | (refine at_op (.store 28 (.tmp 2) (.tmp 127)) rfl ?_; refine wpList_store_row rfl 28 (.tmp 2) (.tmp 127) rfl w.heap.size #[.int .i64 0, .int .u64 0, .int .u64 0, .int .i64 0, .int .i64 0, .int .u32 0, .int .u32 0, .int .u64 0, .int .u64 0, .int .u64 0, .int .u64 0, .int .u64 0, .int .u64 0, .int .u64 0, .string ⟨#[]⟩] rfl rfl 28 _ KG.src size15 rfl one15 ?_))
      exact bodyPost_ret (results_mg Try.results14 _ _ w.heap.size zero15 _ rfl (KG.src.row zero15.toArray) size15 rfl) rfl ⟨by first | rfl | (rw [he]; rfl), below_setRow KG.b (Nat.le_refl _) _⟩
    · go_wp2_with (first | (refine at_op (.load 28 (.tmp 4)) rfl ?_; refine wpList_load_row rfl 28 (.tmp 4) rfl (w.heap.size + 1) rfl 28 (Mg.mk 2 EP ID TK 0 DD PP).cells.toArray (0, 0) _ KF.dst Try.underlying28 rfl HZq.out ?_) | (go_at_call 12; refine (HRt.out _).mono ?_; rintro e Xg ⟨rfl, bg⟩; have KG := KF.over bg; clear KF) | (refine at_op (.load 28 (.tmp 4)) rfl ?_; refine wpList_load_row rfl 28 (.tmp 4) rfl (w.heap.size + 1) rfl 28 (Mg.mk 2 EP ID TK 0 DD PP).cells.toArray (0, 0) _ KG.dst Try.underlying28 rfl HZq.out ?_) | (refine at_op (.store 28 (.tmp 2) (.tmp 128)) rfl ?_; refine wpList_store_row rfl 28 (.tmp 2) (.tmp 128) rfl w.heap.size (Mg.mk 2 EP ID TK 0 DD PP).cells.toArray rfl rfl 28 _ KG.src HZq.out HSq.out (Mg.cells_one _) ?_))
      exact bodyPost_ret (results_mg Try.results14 _ _ w.heap.size (Mg.mk 2 EP ID TK 0 DD PP).cells _ rfl (KG.src.row (Mg.mk 2 EP ID TK 0 DD PP).cells.toArray) HZq.out rfl) rfl ⟨by first | rfl | (rw [he]; rfl), below_setRow KG.b (Nat.le_refl _) _⟩

end Go.Proofs.Ytpdndcmaaghnjaa
