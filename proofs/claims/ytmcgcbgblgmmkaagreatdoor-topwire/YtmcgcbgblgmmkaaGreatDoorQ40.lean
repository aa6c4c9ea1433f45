/-
  StRun.
-/
import Derived.Test.YtmcgcbgblgmmkaaGreatDoorQ39
import Derived.Test.YtmcgcbgblgmmkaaGreatDoorQ0
set_option maxRecDepth 8000
set_option maxHeartbeats 4000000
namespace Go.Proofs.YtmcgcbgblgmmkaaGreatDoor.S
open M (Tryz.infoU cellsZ)
open Go.RowKit
set_option linter.unusedSimpArgs false in
theorem answers_any (X : World) (b : Nat) (vc ve : Value) (ls : List (List V.In)) (d : M.Da) (hS : StkV X b vc ve ls) (hok : OkS ls) (hd : d.ok) :
  Calls Tryz.prog 41 #[.pointer (some ⟨b, 0, none⟩), .agg d.cells.toArray] X fun e w' => ∃ v, e = .returned v /\ w'.ownsRow X.heap.size 31 1 v (ansL ls d).length (cellsZ (ansL ls d)) /\ Below X.heap.size X w' := by
 have h32 := hok.2.1
 have HR : Hid (∀ W a cap (l : List V.In), V.Ins W a l.length l -> l.length <= maxLen -> Calls Tryz.prog 80 #[.slice a l.length cap, .agg d.cells.toArray] W fun e w' => V.RunTold W w' e l d) := fun W a cap l h1 h2 => V.run_any a l.length cap l d W h2 h1 hd
 obtain ⟨d1v, d2v, d3v, d4v, d5v, d6v, d7v, d8v, hAA⟩ := nine_of d hd
 rw [hAA] at HR ⊢
 obtain ⟨i0, hi, hz0, hz1, hz2⟩ := info_parts Tryz.infoU
 have BE : Hid (Below X.heap.size X (X.alloc (Obj.cells #[.int .u32 d.n, d1v, d2v, d3v, d4v, d5v, d6v, d7v, d8v] 34))) := below_new X _
 have KD : Hid (F.D.Blk (X.alloc (Obj.cells #[.int .u32 d.n, d1v, d2v, d3v, d4v, d5v, d6v, d7v, d8v] 34)) X.heap.size 34 [.int .u32 d.n, d1v, d2v, d3v, d4v, d5v, d6v, d7v, d8v]) := F.D.blk_new X _ _
 have HSt : Hid (∀ W, Below X.heap.size X W -> StkV W b vc ve ls) := fun W hW => hS.over hW
 have HLn : Hid (∀ W, Below X.heap.size X W -> Calls Tryz.prog 39 #[.pointer (some ⟨b, 0, none⟩)] W fun e w' => e = .returned (.int .i64 (ls.length : Nat)) /\ w' = W) := fun W hW => len_any W b vc ve ls (hS.over hW)
 have HOk : Hid (OkS ls) := hok
 have e0 : IntKind.i64.wrap ((ls.length : Int) - 1) = (ls.length : Int) - 1 := by rw [IntKind.wrap_i64]; omega
 clear hS hAA hok
 generalize hdn : d.n = dn at *
 go_enter Tryz.func41, Tryz.ntmps41
 go_wp2_with (first | (go_at_call 39; refine (HLn.out _ BE.out).mono ?_; rintro e w2 ⟨rfl, rfl⟩))
 generalize (X.alloc (Obj.cells #[.int .u32 dn, d1v, d2v, d3v, d4v, d5v, d6v, d7v, d8v] 34)) = X1 at *
 go_loopw [5, 6] (fun v6 vi wr => ∃ (i : Nat), vi = .int .i64 ((i : Int) - 1) /\ i <= ls.length /\ wr.ownsRow X1.heap.size 31 1 v6 (ansL (ls.drop i) d).length (cellsZ (ansL (ls.drop i) d)) /\ Below X1.heap.size X1 wr) (fun _ vi _ => (intOf vi + 1).toNat)
 case atStart => exact ⟨ls.length, rfl, Nat.le_refl _, by rw [List.drop_length]; exact ⟨rfl, .inl ⟨rfl, rfl⟩⟩, Below.refl _ _⟩
 case round =>
  obtain ⟨i, rfl, hi2, ho, hb⟩ := hrel
  have HO : Hid (wr.ownsRow X1.heap.size 31 1 _ (ansL (ls.drop i) d).length (cellsZ (ansL (ls.drop i) d))) := ho
  have HB : Hid (Below X1.heap.size X1 wr) := hb
  obtain ⟨a6, q6, rfl⟩ := own_slice ho
  clear ho
  cases i with
  | succ j =>
   have ej : (((j + 1 : Nat) : Int) - 1) = (j : Int) := by omega
   rw [ej]
   have HST : Hid (ansL (ls.drop j) d = ansL (ls.drop (j + 1)) d ++ [V.ansV ls[j] d]) := ans_step hi2
   have hjl : (ansL (ls.drop (j + 1)) d).length <= 100 := by rw [ansL_len, List.length_drop]; omega
   have HFt : Hid (∀ W, Below X1.heap.size X1 W -> Calls Tryz.prog 81 #[.pointer (some ⟨b, 0, none⟩), .int .i64 j] W fun e w' => ∃ v, e = .returned v /\ FlV W v ls[j] /\ Below W.heap.size W w') := fun W hW => filter_any W b vc ve ls (HSt.out W (BE.out.trans (hW.mono BE.out.size))) HOk.out j hi2
   have HKd : Hid (∀ W, Below X1.heap.size X1 W -> F.D.Blk W X.heap.size 34 [.int .u32 dn, d1v, d2v, d3v, d4v, d5v, d6v, d7v, d8v]) := fun W hW => KD.out.over hW
   unfold V.RunTold at HR
   generalize ls[j] = fl at *
   have hj1 : (j : Int) < (ls.length : Int) := by omega
   have hj0 : (0 : Int) <= (j : Int) := by omega
   have em : IntKind.i64.wrap ((j : Int) - 1) = (j : Int) - 1 := by rw [IntKind.wrap_i64]; omega
   go_upto_region 5 with fail
   have hHx : Below X1.heap.size X1 wr.drew := HB.out.drew
   have hS0 : (fun w' => F.D.Blk w' X.heap.size 34 [.int .u32 dn, d1v, d2v, d3v, d4v, d5v, d6v, d7v, d8v]) wr.drew := HKd.out wr.drew hHx
   have hSb : ∀ W, Below wr.drew.heap.size wr.drew W -> (fun w' => F.D.Blk w' X.heap.size 34 [.int .u32 dn, d1v, d2v, d3v, d4v, d5v, d6v, d7v, d8v]) W := fun W hW => HKd.out W (hHx.trans (hW.mono hHx.size))
   have HO2 : Hid (wr.drew.ownsRow X1.heap.size 31 1 (.slice a6 (ansL (ls.drop (j + 1)) d).length q6) (ansL (ls.drop (j + 1)) d).length (cellsZ (ansL (ls.drop (j + 1)) d))) := HO.out.drew
   refine wp_region_held_drew (S := (fun w' => F.D.Blk w' X.heap.size 34 [.int .u32 dn, d1v, d2v, d3v, d4v, d5v, d6v, d7v, d8v])) (by kernel_rfl) (hS0) (fun hHeld => ?_)
   simp only [List.size_toArray, List.length_cons, List.length_nil, Nat.reduceAdd]
   generalize wr.drew = Z at *
   refine tk 0 ?_ hHeld ?_ ?_
   rotate_left
   ·(intro w hSw; (try dsimp only at hSw); go_simp; try with_reducible rfl)
   try simp only [Act.put, zA, zB, zC, zD, zE, zF]
   refine tk 1 ?_ hHeld ?_ ?_
   rotate_left
   ·(intro w hSw; (try dsimp only at hSw); go_simp; try with_reducible rfl)
   try simp only [Act.put, zA, zB, zC, zD, zE, zF]
   refine tk 3 ?_ hHeld ?_ ?_
   rotate_left
   ·(intro w hSw; (try dsimp only at hSw); have n0 := hSw.cell 0; have n1 := hSw.cell 1; have n2 := hSw.cell 2; have n3 := hSw.cell 3; have n4 := hSw.cell 4; have n5 := hSw.cell 5; have n6 := hSw.cell 6; have n7 := hSw.cell 7; have n8 := hSw.cell 8; go_simp; try with_reducible rfl)
   try simp only [Act.put, zA, zB, zC, zD, zE, zF]
   refine wpAnyH_ready (rs := [2]) (by kernel_rfl) (by simp) ?_
   refine AllReadyH.cons rfl (fun K hK => ?_) AllReadyH.nil
   go_simp
   refine (HFt.out _ hHx).mono ?_
   rintro e w3 ⟨v3, rfl, hv3, b3⟩
   have hS3 := hSb w3 b3
   obtain ⟨fa, fc, rfl, fi, fm, -, -⟩ := hv3
   have HRx := HR.out w3 fa fc fl (fi.below b3) fm
   clear fi fm
   go_wp2_with fail
   refine hK.out _ _ (hS3) (fun hHeld => ?_)
   clear hK K
   try simp only [Act.put, zA, zB, zC, zD, zE, zF]
   refine wpAnyH_ready (rs := [4]) (by kernel_rfl) (by simp) ?_
   refine AllReadyH.cons rfl (fun K hK => ?_) AllReadyH.nil
   go_simp
   refine HRx.mono ?_
   rintro e w4 ⟨rfl, b4⟩
   have hS4 := hSb w4 (b3.trans (b4.mono b3.size))
   go_wp2_with fail
   refine hK.out _ _ (hS4) (fun hHeld => ?_)
   clear hK K
   try simp only [Act.put, zA, zB, zC, zD, zE, zF]
   refine tk 5 ?_ hHeld ?_ ?_
   rotate_left
   ·(intro w hSw; (try dsimp only at hSw); go_simp; try with_reducible rfl)
   try simp only [Act.put, zA, zB, zC, zD, zE, zF]
   refine tk 6 ?_ hHeld ?_ ?_
   rotate_left
   ·(intro w hSw; (try dsimp only at hSw); go_simp; try with_reducible rfl)
   try simp only [Act.put, zA, zB, zC, zD, zE, zF]
   refine tk 7 ?_ hHeld ?_ ?_
   rotate_left
   ·(intro w hSw; (try dsimp only at hSw); go_simp; try with_reducible rfl)
   try simp only [Act.put, zA, zB, zC, zD, zE, zF]
   refine tk 8 ?_ hHeld ?_ ?_
   rotate_left
   ·(intro w hSw; (try dsimp only at hSw); go_simp; try with_reducible rfl)
   try simp only [Act.put, zA, zB, zC, zD, zE, zF]
   refine tk 9 ?_ hHeld ?_ ?_
   rotate_left
   ·(intro w hSw; (try dsimp only at hSw); go_simp; try with_reducible rfl)
   try simp only [Act.put, zA, zB, zC, zD, zE, zF]
   refine tk 10 ?_ hHeld ?_ ?_
   rotate_left
   ·(intro w hSw; (try dsimp only at hSw); go_simp; try with_reducible rfl)
   try simp only [Act.put, zA, zB, zC, zD, zE, zF]
   refine tk 11 ?_ hHeld ?_ ?_
   rotate_left
   ·(intro w hSw; (try dsimp only at hSw); go_simp; try with_reducible rfl)
   try simp only [Act.put, zA, zB, zC, zD, zE, zF]
   refine wpAnyH_done (by kernel_rfl) ?_ _
   have b4' := b3.trans (b4.mono b3.size)
   have HB4 : Hid (Below X1.heap.size X1 w4) := hHx.trans (b4'.mono hHx.size)
   have HO4 : Hid (w4.ownsRow X1.heap.size 31 1 (.slice a6 (ansL (ls.drop (j + 1)) d).length q6) (ansL (ls.drop (j + 1)) d).length (cellsZ (ansL (ls.drop (j + 1)) d))) := own_over HO2.out b4'
   clear hHx hS0 hSb b4 b3 b4' hS3 hS4 hHeld HO HO2 HB
   generalize ansL (ls.drop (j + 1)) d = AL at *
   generalize V.ansV fl d = av at *
   go_wp2_with (first
    | (at_builtin; refine wpList_append_own _ rfl _ _ 107 rfl X1.heap.size 31 i0 (.int .u32 0) 1 4 Tryz.underlying107 hi hz0 hz1 hz2 rfl (by decide) _ _ _ rfl (HO4.out.alloc _) ⟨w4.heap.size, 0, none⟩ 1 1 [.int .u32 av] rfl rfl (cell_one_new _ _ _) (by simp [Value.oneCell']) (by unfold maxLen; omega) (by omega) (by have := HB4.out.size; simp; omega) ?_; intro v' w5 hown' hg5 hnil5; go_frame)
    | go_in)
   go_roundw
   case rel => exact ⟨j, by go_num, by omega, by rw [HST.out, List.length_append]; simpa [cellsZ] using hown', (HB4.out.alloc HB4.out.size _).grown hg5 (by have := HB4.out.size; simp; omega) (fun q hq => (HO4.out.lt q hq).1)⟩
   case measure => simp [intOf]
  | zero =>
   simp only [List.drop_zero] at HO ⊢
   have HE : Hid (∃ v, Ending.returned (.slice a6 (ansL ls d).length q6) = .returned v /\ wr.ownsRow X.heap.size 31 1 v (ansL ls d).length (cellsZ (ansL ls d)) /\ Below X.heap.size X wr) := ⟨_, rfl, P.owns_lower HO.out BE.out.size, BE.out.trans (HB.out.mono BE.out.size)⟩
   clear HO HB
   go_wp2_with fail
   go_ret
   exact HE.out
set_option linter.unusedSimpArgs false in
theorem run_any (X : World) (b : Nat) (vc ve : Value) (ls : List (List V.In)) (d : M.Da) (hS : StkV X b vc ve ls) (hok : OkS ls) (hd : d.ok) :
  Calls Tryz.prog 17 #[.pointer (some ⟨b, 0, none⟩), .agg d.cells.toArray] X fun e w' => e = .returned (.tuple #[.int .u32 (A.most (ansL ls d)), .int .i64 (plN (ansL ls d))]) /\ Below X.heap.size X w' := by
 have h32 := hok.2.1
 have HUu : Hid (∀ z ∈ ansL ls d, V.U32 z) := fun z hz => by
  unfold ansL at hz
  rw [List.mem_reverse] at hz
  obtain ⟨l, hl, rfl⟩ := List.mem_map.1 hz
  exact ansV_u _ d (hok.1 l hl).2 hd
 obtain ⟨d1v, d2v, d3v, d4v, d5v, d6v, d7v, d8v, hAA⟩ := nine_of d hd
 have BE : Hid (Below X.heap.size X (X.alloc (Obj.cells #[.int .u32 d.n, d1v, d2v, d3v, d4v, d5v, d6v, d7v, d8v] 34))) := below_new X _
 have HAn : Hid (Calls Tryz.prog 41 #[.pointer (some ⟨b, 0, none⟩), .agg #[.int .u32 d.n, d1v, d2v, d3v, d4v, d5v, d6v, d7v, d8v]] (X.alloc (Obj.cells #[.int .u32 d.n, d1v, d2v, d3v, d4v, d5v, d6v, d7v, d8v] 34)) fun e w' => ∃ v, e = .returned v /\ w'.ownsRow (X.alloc (Obj.cells #[.int .u32 d.n, d1v, d2v, d3v, d4v, d5v, d6v, d7v, d8v] 34)).heap.size 31 1 v (ansL ls d).length (cellsZ (ansL ls d)) /\ Below (X.alloc (Obj.cells #[.int .u32 d.n, d1v, d2v, d3v, d4v, d5v, d6v, d7v, d8v] 34)).heap.size (X.alloc (Obj.cells #[.int .u32 d.n, d1v, d2v, d3v, d4v, d5v, d6v, d7v, d8v] 34)) w') := by
  have := answers_any (X.alloc (Obj.cells #[.int .u32 d.n, d1v, d2v, d3v, d4v, d5v, d6v, d7v, d8v] 34)) b vc ve ls d (hS.over (below_new X _)) hok hd
  rw [hAA] at this
  exact this
 rw [hAA]
 have HMo : Hid (∀ W a cap, (ansL ls d).length <= cap -> V.Ns .u32 W a (ansL ls d).length (ansL ls d) -> Calls Tryz.prog 42 #[.slice a (ansL ls d).length cap] W fun e w' => e = .returned (.int .u32 (A.most (ansL ls d))) /\ Below W.heap.size W w') := fun W a cap hc h => A.most_any a _ cap (ansL ls d) W HUu.out (by rw [ansL_len]; unfold maxLen; omega) hc h
 have HLn : Hid (∀ W, Below X.heap.size X W -> Calls Tryz.prog 39 #[.pointer (some ⟨b, 0, none⟩)] W fun e w' => e = .returned (.int .i64 (ls.length : Nat)) /\ w' = W) := fun W hW => len_any W b vc ve ls (hS.over hW)
 have hal : (ansL ls d).length = ls.length := ansL_len ls d
 have HP : Hid (plN (ansL ls d) = match (ansL ls d).findIdx? (fun y => y == A.most (ansL ls d)) with | some i => ((ansL ls d).length : Int) - 1 - (i : Int) | none => -1) := rfl
 clear hS hok hAA
 generalize hdn : d.n = dn at *
 obtain ⟨L, hL⟩ : ∃ L, ansL ls d = L := ⟨_, rfl⟩
 obtain ⟨mo, hmo⟩ : ∃ mo, A.most L = mo := ⟨_, rfl⟩
 obtain ⟨pn, hpn⟩ : ∃ pn, plN L = pn := ⟨_, rfl⟩
 rw [hL] at HAn HMo HP hal
 rw [hmo] at HMo HP
 rw [hpn] at HP
 rw [hL, hmo, hpn]
 clear hL hmo hpn HUu
 have HAL : Hid (L.length = ls.length) := hal
 rw [hal] at HMo HAn
 clear hal
 go_enter Tryz.func17, Tryz.ntmps17
 go_upto_region 2 with (first | (go_at_call 41; refine HAn.out.mono ?_; rintro e w4 ⟨v4, rfl, o4, b4⟩; obtain ⟨a6, q6, rfl⟩ := own_slice o4))
 have HB4 : Hid (Below X.heap.size X w4) := BE.out.trans (b4.mono BE.out.size)
 have HO4 : Hid (V.Ns .u32 w4 a6 ls.length L /\ ls.length <= q6) := by
  rw [<- HAL.out] at o4
  obtain ⟨a8, q8, e8, hns, hq⟩ := ns_of_own o4
  rw [HAL.out] at e8 hns hq
  cases e8
  exact ⟨hns, hq⟩
 clear HAn BE o4 b4
 go_upto_region 3 with (first | (go_at_call 42; refine (HMo.out w4 a6 q6 HO4.out.2 HO4.out.1).mono ?_; rintro e w5 ⟨rfl, b5⟩))
 have HB5 : Hid (Below X.heap.size X w5) := HB4.out.trans (b5.mono HB4.out.size)
 have HN : Hid (∀ W, Below w5.heap.size w5 W -> V.Ns .u32 W a6 ls.length L) := fun W hW => (HO4.out.1.below b5).below hW
 clear HO4 HMo b5 HB4
 go_wp2_with fail
 go_loopw [17] (fun vi wz => ∃ i : Nat, vi = .int .i64 i /\ i <= ls.length /\ (∀ j (hj : j < L.length), j < i -> L[j] ≠ mo) /\ Below w5.heap.size w5 wz) (fun vi _ => ls.length - (intOf vi).toNat)
 case atStart => exact ⟨0, rfl, Nat.zero_le _, fun j hj h => absurd h (by omega), Below.refl _ _⟩
 case round =>
  obtain ⟨i, rfl, hi3, hno, hbz⟩ := hrel
  have hnz := HN.out _ hbz
  have HBz : Hid (Below X.heap.size X _) := HB5.out.trans (hbz.mono HB5.out.size)
  by_cases hlt : i < ls.length
  ·have hi1 : (i : Int) < (ls.length : Int) := by omega
   have hlL : i < L.length := by rw [HAL.out]; exact hlt
   obtain ⟨nb, no', rfl, hc⟩ := hnz.2 (by omega)
   have e1 := hc i hlt
   have hgd : L.getD i 0 = L[i] := by rw [List.getD_eq_getElem?_getD, List.getElem?_eq_getElem hlL]; rfl
   rw [hgd] at e1
   clear hc hnz
   by_cases hx : L[i] = mo
   ·have HE : Hid (pn = (ls.length : Int) - 1 - (i : Int)) := by
     unfold Hid
     rw [HP.out, find_some_at hlL hx hno, HAL.out]
    rw [hx] at e1
    have hmm : (mo == mo) = true := by simp
    have w1 : IntKind.i64.wrap ((ls.length : Int) - 1) = (ls.length : Int) - 1 := by rw [IntKind.wrap_i64]; omega
    have w2 : IntKind.i64.wrap ((ls.length : Int) - 1 - (i : Int)) = (ls.length : Int) - 1 - (i : Int) := by rw [IntKind.wrap_i64]; omega
    clear hno hx hgd
    go_wp2_with (first | (go_at_call 39; refine (HLn.out _ HBz.out).mono ?_; rintro e w6 ⟨rfl, rfl⟩))
    go_ret2
    exact ⟨by rw [HE.out]; rfl, HBz.out⟩
   ·have hx1 : (L[i] == mo) = false := by simpa using hx
    have hno2 : ∀ j (hj : j < L.length), j < i + 1 -> L[j] ≠ mo := fun j hj hji => by
     rcases Nat.lt_succ_iff_lt_or_eq.1 hji with h | h
     ·exact hno j hj h
     ·subst h; exact hx
    have HN2 : Hid (∀ j (hj : j < L.length), j < i + 1 -> L[j] ≠ mo) := hno2
    clear hno hno2 hx hgd
    generalize L[i] = y at *
    go_wp2_with fail
    go_roundw
    case rel => exact ⟨i + 1, by go_num, hlt, HN2.out, hbz⟩
    case measure => simp [intOf]; omega
  ·have hi1 : ¬ (i : Int) < (ls.length : Int) := by omega
   have HE : Hid (pn = -1) := by
    unfold Hid
    rw [HP.out, find_none_at (by rw [HAL.out]; exact hlt) hno]
   clear hno hnz
   go_wp2_with fail
   go_ret2
   exact ⟨by rw [HE.out]; rfl, HBz.out⟩
end Go.Proofs.YtmcgcbgblgmmkaaGreatDoor.S
