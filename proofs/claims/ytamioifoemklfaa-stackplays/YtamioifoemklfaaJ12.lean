/-
  Texts of this seat, joined: StRun, StAwk, StBlt.
-/
import Derived.Test.YtamioifoemklfaaJ10
import Derived.Test.YtamioifoemklfaaJ11
import Derived.Deep.RegionHeld3
import Derived.Deep.DeepCutAuto
import Derived.BigQuiet

namespace Go.Proofs.Ytamioifoemklfaa
open Go.RowKit

set_option linter.unusedSimpArgs false in
set_option maxRecDepth 8000 in
set_option maxHeartbeats 4000000 in
theorem answers_any (X : World) (b : Nat) (vc ve : Value) (ls : List (List V.In)) (d : V.Da) (hS : StkV X b vc ve ls) (hok : OkS ls) (hd : d.ok) :
    Calls Try.prog 24 #[.pointer (some ⟨b, 0, none⟩), .agg d.cells.toArray] X fun e w' => ∃ v, e = .returned v ∧ w'.ownsRow X.heap.size 23 1 v (ansL ls d).length (cellsZ (ansL ls d)) ∧ Below X.heap.size X w' := by
  have h32 := hok.2.1
  have HR : Hid (∀ W a cap (l : List V.In), V.Ins W a l.length l → l.length ≤ maxLen → Calls Try.prog 19 #[.slice a l.length cap, .agg d.cells.toArray] W fun e w' => V.RunTold W w' e l d) := fun W a cap l h1 h2 => V.run_any a l.length cap l d W h2 h1 hd
  obtain ⟨d1v, d2v, d3v, d4v, d5v, d6v, d7v, d8v, hAA⟩ := nine_of d hd
  rw [hAA] at HR ⊢
  obtain ⟨i0, hi, hz0, hz1, hz2⟩ := info_parts Try.infoU
  have BE : Hid (Below X.heap.size X (X.alloc (Obj.cells #[.int .u32 d.n, d1v, d2v, d3v, d4v, d5v, d6v, d7v, d8v] 27))) := below_new X _
  have KD : Hid (V.Blk (X.alloc (Obj.cells #[.int .u32 d.n, d1v, d2v, d3v, d4v, d5v, d6v, d7v, d8v] 27)) X.heap.size 27 [.int .u32 d.n, d1v, d2v, d3v, d4v, d5v, d6v, d7v, d8v]) := V.blk_new X _ _
  have HSt : Hid (∀ W, Below X.heap.size X W → StkV W b vc ve ls) := fun W hW => hS.over hW
  have HLn : Hid (∀ W, Below X.heap.size X W → Calls Try.prog 12 #[.pointer (some ⟨b, 0, none⟩)] W fun e w' => e = .returned (.int .i64 (ls.length : Nat)) ∧ w' = W) := fun W hW => len_any W b vc ve ls (hS.over hW)
  have HOk : Hid (OkS ls) := hok
  have e0 : IntKind.i64.wrap ((ls.length : Int) - 1) = (ls.length : Int) - 1 := by rw [IntKind.wrap_i64]; omega
  clear hS hAA hok
  generalize hdn : d.n = dn at *
  go_enter Try.func24, Try.ntmps24
  go_wp2_with (first | (go_at_call 12; refine (HLn.out _ BE.out).mono ?_; rintro e w2 ⟨rfl, rfl⟩))
  generalize (X.alloc (Obj.cells #[.int .u32 dn, d1v, d2v, d3v, d4v, d5v, d6v, d7v, d8v] 27)) = X1 at *
  go_loopw [5, 6] (fun v6 vi wr => ∃ (i : Nat), vi = .int .i64 ((i : Int) - 1) ∧ i ≤ ls.length ∧ wr.ownsRow X1.heap.size 23 1 v6 (ansL (ls.drop i) d).length (cellsZ (ansL (ls.drop i) d)) ∧ Below X1.heap.size X1 wr) (fun _ vi _ => (intOf vi + 1).toNat)
  case atStart => exact ⟨ls.length, rfl, Nat.le_refl _, by rw [List.drop_length]; exact ⟨rfl, .inl ⟨rfl, rfl⟩⟩, Below.refl _ _⟩
  case round =>
    obtain ⟨i, rfl, hi2, ho, hb⟩ := hrel
    have HO : Hid (wr.ownsRow X1.heap.size 23 1 _ (ansL (ls.drop i) d).length (cellsZ (ansL (ls.drop i) d))) := ho
    have HB : Hid (Below X1.heap.size X1 wr) := hb
    obtain ⟨a6, q6, rfl⟩ := own_slice ho
    clear ho
    cases i with
    | succ j =>
      have ej : (((j + 1 : Nat) : Int) - 1) = (j : Int) := by omega
      rw [ej]
      have HST : Hid (ansL (ls.drop j) d = ansL (ls.drop (j + 1)) d ++ [V.ansV ls[j] d]) := ans_step hi2
      have hjl : (ansL (ls.drop (j + 1)) d).length ≤ 100 := by rw [ansL_len, List.length_drop]; omega
      have HFt : Hid (∀ W, Below X1.heap.size X1 W → Calls Try.prog 35 #[.pointer (some ⟨b, 0, none⟩), .int .i64 j] W fun e w' => ∃ v, e = .returned v ∧ FlV W v ls[j] ∧ Below W.heap.size W w') := fun W hW => filter_any W b vc ve ls (HSt.out W (BE.out.trans (hW.mono BE.out.size))) HOk.out j hi2
      have HKd : Hid (∀ W, Below X1.heap.size X1 W → V.Blk W X.heap.size 27 [.int .u32 dn, d1v, d2v, d3v, d4v, d5v, d6v, d7v, d8v]) := fun W hW => KD.out.over hW
      unfold V.RunTold at HR
      generalize ls[j] = fl at *
      have hj1 : (j : Int) < (ls.length : Int) := by omega
      have hj0 : (0 : Int) ≤ (j : Int) := by omega
      have em : IntKind.i64.wrap ((j : Int) - 1) = (j : Int) - 1 := by rw [IntKind.wrap_i64]; omega
      go_upto_region 5 with fail
      have hHx : Below X1.heap.size X1 wr.drew := HB.out.drew
      have hS0 : (fun w' => V.Blk w' X.heap.size 27 [.int .u32 dn, d1v, d2v, d3v, d4v, d5v, d6v, d7v, d8v]) wr.drew := HKd.out wr.drew hHx
      have hSb : ∀ W, Below wr.drew.heap.size wr.drew W → (fun w' => V.Blk w' X.heap.size 27 [.int .u32 dn, d1v, d2v, d3v, d4v, d5v, d6v, d7v, d8v]) W := fun W hW => HKd.out W (hHx.trans (hW.mono hHx.size))
      have HO2 : Hid (wr.drew.ownsRow X1.heap.size 23 1 (.slice a6 (ansL (ls.drop (j + 1)) d).length q6) (ansL (ls.drop (j + 1)) d).length (cellsZ (ansL (ls.drop (j + 1)) d))) := HO.out.drew
      refine wp_region_held_drew (S := (fun w' => V.Blk w' X.heap.size 27 [.int .u32 dn, d1v, d2v, d3v, d4v, d5v, d6v, d7v, d8v])) (by kernel_rfl) (hS0) (fun hHeld => ?_)
      simp only [List.size_toArray, List.length_cons, List.length_nil, Nat.reduceAdd]
      generalize wr.drew = Z at *
      refine wpAnyH_take (i := 0) (v := ?_) rfl (by kernel_rfl) (by kernel_rfl) (by kernel_rfl) (fun _ _ _ h => h) (Or.inl ⟨by rfl, ?_⟩) hHeld ?_
      rotate_left
      · (intro w hSw; (try dsimp only at hSw); go_simp; try with_reducible rfl)
      try simp only [Act.put, List.setIfInBounds_toArray, List.set_cons_zero, List.set_cons_succ, List.getElem_toArray, List.getElem_cons_zero, List.getElem_cons_succ]
      refine wpAnyH_take (i := 1) (v := ?_) rfl (by kernel_rfl) (by kernel_rfl) (by kernel_rfl) (fun _ _ _ h => h) (Or.inl ⟨by rfl, ?_⟩) hHeld ?_
      rotate_left
      · (intro w hSw; (try dsimp only at hSw); go_simp; try with_reducible rfl)
      try simp only [Act.put, List.setIfInBounds_toArray, List.set_cons_zero, List.set_cons_succ, List.getElem_toArray, List.getElem_cons_zero, List.getElem_cons_succ]
      refine wpAnyH_take (i := 3) (v := ?_) rfl (by kernel_rfl) (by kernel_rfl) (by kernel_rfl) (fun _ _ _ h => h) (Or.inl ⟨by rfl, ?_⟩) hHeld ?_
      rotate_left
      · (intro w hSw; (try dsimp only at hSw); have n0 := hSw.cell 0; have n1 := hSw.cell 1; have n2 := hSw.cell 2; have n3 := hSw.cell 3; have n4 := hSw.cell 4; have n5 := hSw.cell 5; have n6 := hSw.cell 6; have n7 := hSw.cell 7; have n8 := hSw.cell 8; go_simp; try with_reducible rfl)
      try simp only [Act.put, List.setIfInBounds_toArray, List.set_cons_zero, List.set_cons_succ, List.getElem_toArray, List.getElem_cons_zero, List.getElem_cons_succ]
      refine wpAnyH_ready (rs := [2]) (by kernel_rfl) (by simp) ?_
      refine AllReadyH.cons rfl (fun K hK => ?_) AllReadyH.nil
      go_simp
      refine (HFt.out _ hHx).mono ?_
      rintro e w3 ⟨v3, rfl, hv3, b3⟩
      have hS3 := hSb w3 b3
      obtain ⟨fa, fc, rfl, fi, fm, -, -⟩ := hv3
      have HRx := HR.out w3 fa fc fl (fi.below b3) fm
      clear fi fm
      go_wp2_with fail
      refine hK.out _ _ (hS3) (fun hHeld => ?_)
      clear hK K
      try simp only [Act.put, List.setIfInBounds_toArray, List.set_cons_zero, List.set_cons_succ, List.getElem_toArray, List.getElem_cons_zero, List.getElem_cons_succ]
      refine wpAnyH_ready (rs := [4]) (by kernel_rfl) (by simp) ?_
      refine AllReadyH.cons rfl (fun K hK => ?_) AllReadyH.nil
      go_simp
      refine HRx.mono ?_
      rintro e w4 ⟨rfl, b4⟩
      have hS4 := hSb w4 (b3.trans (b4.mono b3.size))
      go_wp2_with fail
      refine hK.out _ _ (hS4) (fun hHeld => ?_)
      clear hK K
      try simp only [Act.put, List.setIfInBounds_toArray, List.set_cons_zero, List.set_cons_succ, List.getElem_toArray, List.getElem_cons_zero, List.getElem_cons_succ]
      refine wpAnyH_take (i := 5) (v := ?_) rfl (by kernel_rfl) (by kernel_rfl) (by kernel_rfl) (fun _ _ _ h => h) (Or.inl ⟨by rfl, ?_⟩) hHeld ?_
      rotate_left
      · (intro w hSw; (try dsimp only at hSw); go_simp; try with_reducible rfl)
      try simp only [Act.put, List.setIfInBounds_toArray, List.set_cons_zero, List.set_cons_succ, List.getElem_toArray, List.getElem_cons_zero, List.getElem_cons_succ]
      refine wpAnyH_take (i := 6) (v := ?_) rfl (by kernel_rfl) (by kernel_rfl) (by kernel_rfl) (fun _ _ _ h => h) (Or.inl ⟨by rfl, ?_⟩) hHeld ?_
      rotate_left
      · (intro w hSw; (try dsimp only at hSw); go_simp; try with_reducible rfl)
      try simp only [Act.put, List.setIfInBounds_toArray, List.set_cons_zero, List.set_cons_succ, List.getElem_toArray, List.getElem_cons_zero, List.getElem_cons_succ]
      refine wpAnyH_take (i := 7) (v := ?_) rfl (by kernel_rfl) (by kernel_rfl) (by kernel_rfl) (fun _ _ _ h => h) (Or.inl ⟨by rfl, ?_⟩) hHeld ?_
      rotate_left
      · (intro w hSw; (try dsimp only at hSw); go_simp; try with_reducible rfl)
      try simp only [Act.put, List.setIfInBounds_toArray, List.set_cons_zero, List.set_cons_succ, List.getElem_toArray, List.getElem_cons_zero, List.getElem_cons_succ]
      refine wpAnyH_take (i := 8) (v := ?_) rfl (by kernel_rfl) (by kernel_rfl) (by kernel_rfl) (fun _ _ _ h => h) (Or.inl ⟨by rfl, ?_⟩) hHeld ?_
      rotate_left
      · (intro w hSw; (try dsimp only at hSw); go_simp; try with_reducible rfl)
      try simp only [Act.put, List.setIfInBounds_toArray, List.set_cons_zero, List.set_cons_succ, List.getElem_toArray, List.getElem_cons_zero, List.getElem_cons_succ]
      refine wpAnyH_take (i := 9) (v := ?_) rfl (by kernel_rfl) (by kernel_rfl) (by kernel_rfl) (fun _ _ _ h => h) (Or.inl ⟨by rfl, ?_⟩) hHeld ?_
      rotate_left
      · (intro w hSw; (try dsimp only at hSw); go_simp; try with_reducible rfl)
      try simp only [Act.put, List.setIfInBounds_toArray, List.set_cons_zero, List.set_cons_succ, List.getElem_toArray, List.getElem_cons_zero, List.getElem_cons_succ]
      refine wpAnyH_take (i := 10) (v := ?_) rfl (by kernel_rfl) (by kernel_rfl) (by kernel_rfl) (fun _ _ _ h => h) (Or.inl ⟨by rfl, ?_⟩) hHeld ?_
      rotate_left
      · (intro w hSw; (try dsimp only at hSw); go_simp; try with_reducible rfl)
      try simp only [Act.put, List.setIfInBounds_toArray, List.set_cons_zero, List.set_cons_succ, List.getElem_toArray, List.getElem_cons_zero, List.getElem_cons_succ]
      refine wpAnyH_take (i := 11) (v := ?_) rfl (by kernel_rfl) (by kernel_rfl) (by kernel_rfl) (fun _ _ _ h => h) (Or.inl ⟨by rfl, ?_⟩) hHeld ?_
      rotate_left
      · (intro w hSw; (try dsimp only at hSw); go_simp; try with_reducible rfl)
      try simp only [Act.put, List.setIfInBounds_toArray, List.set_cons_zero, List.set_cons_succ, List.getElem_toArray, List.getElem_cons_zero, List.getElem_cons_succ]
      refine wpAnyH_done (by kernel_rfl) ?_ _
      have b4' := b3.trans (b4.mono b3.size)
      have HB4 : Hid (Below X1.heap.size X1 w4) := hHx.trans (b4'.mono hHx.size)
      have HO4 : Hid (w4.ownsRow X1.heap.size 23 1 (.slice a6 (ansL (ls.drop (j + 1)) d).length q6) (ansL (ls.drop (j + 1)) d).length (cellsZ (ansL (ls.drop (j + 1)) d))) := own_over HO2.out b4'
      clear hHx hS0 hSb b4 b3 b4' hS3 hS4 hHeld HO HO2 HB
      generalize ansL (ls.drop (j + 1)) d = AL at *
      generalize V.ansV fl d = av at *
      go_wp2_with (first
        | (at_builtin; refine wpList_append_own _ rfl _ _ 62 rfl X1.heap.size 23 i0 (.int .u32 0) 1 4 Try.underlying62 hi hz0 hz1 hz2 rfl (by decide) _ _ _ rfl (HO4.out.alloc _) ⟨w4.heap.size, 0, none⟩ 1 1 [.int .u32 av] rfl rfl (cell_one_new _ _ _) (by simp [Value.oneCell']) (by unfold maxLen; omega) (by omega) (by have := HB4.out.size; simp; omega) ?_; intro v' w5 hown' hg5 hnil5; go_frame)
        | go_in)
      go_roundw
      case rel => exact ⟨j, by go_num, by omega, by rw [HST.out, List.length_append]; simpa [cellsZ] using hown', (HB4.out.alloc HB4.out.size _).grown hg5 (by have := HB4.out.size; simp; omega) (fun q hq => (HO4.out.lt q hq).1)⟩
      case measure => simp [intOf]
    | zero =>
      simp only [List.drop_zero] at HO ⊢
      have HE : Hid (∃ v, Ending.returned (.slice a6 (ansL ls d).length q6) = .returned v ∧ wr.ownsRow X.heap.size 23 1 v (ansL ls d).length (cellsZ (ansL ls d)) ∧ Below X.heap.size X wr) := ⟨_, rfl, V.owns_lower HO.out BE.out.size, BE.out.trans (HB.out.mono BE.out.size)⟩
      clear HO HB
      go_wp2_with fail
      go_ret
      exact HE.out

set_option linter.unusedSimpArgs false in
set_option maxRecDepth 8000 in
set_option maxHeartbeats 4000000 in
theorem run_any (X : World) (b : Nat) (vc ve : Value) (ls : List (List V.In)) (d : V.Da) (hS : StkV X b vc ve ls) (hok : OkS ls) (hd : d.ok) :
    Calls Try.prog 15 #[.pointer (some ⟨b, 0, none⟩), .agg d.cells.toArray] X fun e w' => e = .returned (.tuple #[.int .u32 (A.most (ansL ls d)), .int .i64 (plN (ansL ls d))]) ∧ Below X.heap.size X w' := by
  have h32 := hok.2.1
  have HUu : Hid (∀ z ∈ ansL ls d, A.U32 z) := fun z hz => by
    unfold ansL at hz
    rw [List.mem_reverse] at hz
    obtain ⟨l, hl, rfl⟩ := List.mem_map.1 hz
    exact ansV_u _ d (hok.1 l hl).2 hd
  obtain ⟨d1v, d2v, d3v, d4v, d5v, d6v, d7v, d8v, hAA⟩ := nine_of d hd
  have BE : Hid (Below X.heap.size X (X.alloc (Obj.cells #[.int .u32 d.n, d1v, d2v, d3v, d4v, d5v, d6v, d7v, d8v] 27))) := below_new X _
  have HAn : Hid (Calls Try.prog 24 #[.pointer (some ⟨b, 0, none⟩), .agg #[.int .u32 d.n, d1v, d2v, d3v, d4v, d5v, d6v, d7v, d8v]] (X.alloc (Obj.cells #[.int .u32 d.n, d1v, d2v, d3v, d4v, d5v, d6v, d7v, d8v] 27)) fun e w' => ∃ v, e = .returned v ∧ w'.ownsRow (X.alloc (Obj.cells #[.int .u32 d.n, d1v, d2v, d3v, d4v, d5v, d6v, d7v, d8v] 27)).heap.size 23 1 v (ansL ls d).length (cellsZ (ansL ls d)) ∧ Below (X.alloc (Obj.cells #[.int .u32 d.n, d1v, d2v, d3v, d4v, d5v, d6v, d7v, d8v] 27)).heap.size (X.alloc (Obj.cells #[.int .u32 d.n, d1v, d2v, d3v, d4v, d5v, d6v, d7v, d8v] 27)) w') := by
    have := answers_any (X.alloc (Obj.cells #[.int .u32 d.n, d1v, d2v, d3v, d4v, d5v, d6v, d7v, d8v] 27)) b vc ve ls d (hS.over (below_new X _)) hok hd
    rw [hAA] at this
    exact this
  rw [hAA]
  have HMo : Hid (∀ W a cap, (ansL ls d).length ≤ cap → A.Ns .u32 W a (ansL ls d).length (ansL ls d) → Calls Try.prog 25 #[.slice a (ansL ls d).length cap] W fun e w' => e = .returned (.int .u32 (A.most (ansL ls d))) ∧ Below W.heap.size W w') := fun W a cap hc h => A.most_any a _ cap (ansL ls d) W HUu.out (by rw [ansL_len]; unfold maxLen; omega) hc h
  have HLn : Hid (∀ W, Below X.heap.size X W → Calls Try.prog 12 #[.pointer (some ⟨b, 0, none⟩)] W fun e w' => e = .returned (.int .i64 (ls.length : Nat)) ∧ w' = W) := fun W hW => len_any W b vc ve ls (hS.over hW)
  have hal : (ansL ls d).length = ls.length := ansL_len ls d
  have HP : Hid (plN (ansL ls d) = match (ansL ls d).findIdx? (fun y => y == A.most (ansL ls d)) with | some i => ((ansL ls d).length : Int) - 1 - (i : Int) | none => -1) := rfl
  clear hS hok hAA
  generalize hdn : d.n = dn at *
  obtain ⟨L, hL⟩ : ∃ L, ansL ls d = L := ⟨_, rfl⟩
  obtain ⟨mo, hmo⟩ : ∃ mo, A.most L = mo := ⟨_, rfl⟩
  obtain ⟨pn, hpn⟩ : ∃ pn, plN L = pn := ⟨_, rfl⟩
  rw [hL] at HAn HMo HP hal
  rw [hmo] at HMo HP
  rw [hpn] at HP
  rw [hL, hmo, hpn]
  clear hL hmo hpn HUu
  have HAL : Hid (L.length = ls.length) := hal
  rw [hal] at HMo HAn
  clear hal
  go_enter Try.func15, Try.ntmps15
  go_upto_region 2 with (first | (go_at_call 24; refine HAn.out.mono ?_; rintro e w4 ⟨v4, rfl, o4, b4⟩; obtain ⟨a6, q6, rfl⟩ := own_slice o4))
  have HB4 : Hid (Below X.heap.size X w4) := BE.out.trans (b4.mono BE.out.size)
  have HO4 : Hid (A.Ns .u32 w4 a6 ls.length L ∧ ls.length ≤ q6) := by
    rw [← HAL.out] at o4
    obtain ⟨a8, q8, e8, hns, hq⟩ := ns_of_own o4
    rw [HAL.out] at e8 hns hq
    cases e8
    exact ⟨hns, hq⟩
  clear HAn BE o4 b4
  go_upto_region 3 with (first | (go_at_call 25; refine (HMo.out w4 a6 q6 HO4.out.2 HO4.out.1).mono ?_; rintro e w5 ⟨rfl, b5⟩))
  have HB5 : Hid (Below X.heap.size X w5) := HB4.out.trans (b5.mono HB4.out.size)
  have HN : Hid (∀ W, Below w5.heap.size w5 W → A.Ns .u32 W a6 ls.length L) := fun W hW => (HO4.out.1.below b5).below hW
  clear HO4 HMo b5 HB4
  go_wp2_with fail
  go_loopw [17] (fun vi wz => ∃ i : Nat, vi = .int .i64 i ∧ i ≤ ls.length ∧ (∀ j (hj : j < L.length), j < i → L[j] ≠ mo) ∧ Below w5.heap.size w5 wz) (fun vi _ => ls.length - (intOf vi).toNat)
  case atStart => exact ⟨0, rfl, Nat.zero_le _, fun j hj h => absurd h (by omega), Below.refl _ _⟩
  case round =>
    obtain ⟨i, rfl, hi3, hno, hbz⟩ := hrel
    have hnz := HN.out _ hbz
    have HBz : Hid (Below X.heap.size X _) := HB5.out.trans (hbz.mono HB5.out.size)
    by_cases hlt : i < ls.length
    · have hi1 : (i : Int) < (ls.length : Int) := by omega
      have hlL : i < L.length := by rw [HAL.out]; exact hlt
      obtain ⟨nb, no', rfl, hc⟩ := hnz.2 (by omega)
      have e1 := hc i hlt
      have hgd : L.getD i 0 = L[i] := by rw [List.getD_eq_getElem?_getD, List.getElem?_eq_getElem hlL]; rfl
      rw [hgd] at e1
      clear hc hnz
      by_cases hx : L[i] = mo
      · have HE : Hid (pn = (ls.length : Int) - 1 - (i : Int)) := by
          unfold Hid
          rw [HP.out, find_some_at hlL hx hno, HAL.out]
        rw [hx] at e1
        have hmm : (mo == mo) = true := by simp
        have w1 : IntKind.i64.wrap ((ls.length : Int) - 1) = (ls.length : Int) - 1 := by rw [IntKind.wrap_i64]; omega
        have w2 : IntKind.i64.wrap ((ls.length : Int) - 1 - (i : Int)) = (ls.length : Int) - 1 - (i : Int) := by rw [IntKind.wrap_i64]; omega
        clear hno hx hgd
        go_wp2_with (first | (go_at_call 12; refine (HLn.out _ HBz.out).mono ?_; rintro e w6 ⟨rfl, rfl⟩))
        go_ret2
        exact ⟨by rw [HE.out]; rfl, HBz.out⟩
      · have hx1 : (L[i] == mo) = false := by simpa using hx
        have hno2 : ∀ j (hj : j < L.length), j < i + 1 → L[j] ≠ mo := fun j hj hji => by
          rcases Nat.lt_succ_iff_lt_or_eq.1 hji with h | h
          · exact hno j hj h
          · subst h; exact hx
        have HN2 : Hid (∀ j (hj : j < L.length), j < i + 1 → L[j] ≠ mo) := hno2
        clear hno hno2 hx hgd
        generalize L[i] = y at *
        go_wp2_with fail
        go_roundw
        case rel => exact ⟨i + 1, by go_num, hlt, HN2.out, hbz⟩
        case measure => simp [intOf]; omega
    · have hi1 : ¬ (i : Int) < (ls.length : Int) := by omega
      have HE : Hid (pn = -1) := by
        unfold Hid
        rw [HP.out, find_none_at (by rw [HAL.out]; exact hlt) hno]
      clear hno hnz
      go_wp2_with fail
      go_ret2
      exact ⟨by rw [HE.out]; rfl, HBz.out⟩

end Go.Proofs.Ytamioifoemklfaa

namespace Go.Proofs.Ytamioifoemklfaa
open Go.RowKit

theorem stk_new (w : World) : StkV (w.alloc (Obj.cells #[.slice none 0 0, .slice none 0 0] 34)) w.heap.size (.slice none 0 0) (.slice none 0 0) [] := ⟨V.blk_new w _ _, own_nil _ _, ⟨rfl, .inl ⟨rfl, rfl⟩⟩⟩
theorem fl_of_own {w : World} {base : Nat} {v : Value} {l : List V.In} (h : w.ownsRow base 56 4 v l.length (V.cellsI l)) (hl : ∀ x ∈ l, x.ok) : FlV w v l := by
  obtain ⟨a, cap, rfl, hi⟩ := V.owns_ins h hl
  rcases h.2 with ⟨e, h0⟩ | ⟨g, c, cur, e, _, _, h1, h2, _⟩
  · simp at e
    exact ⟨a, cap, rfl, hi, by unfold maxLen; omega, by omega, fun _ => by omega⟩
  · simp at e
    exact ⟨a, cap, rfl, hi, by omega, by omega, fun hn => by rw [e.1] at hn; cases hn⟩
theorem fl_in (w : World) (c t f k : Int) (hx : (⟨c, t, f, k⟩ : V.In).ok) : FlV (w.alloc (Obj.cells #[.int .u16 c, .int .u8 t, .int .u8 f, .int .u32 k] 56)) (.slice (some ⟨w.heap.size, 0, none⟩) 1 1) [⟨c, t, f, k⟩] :=
  fl_of_own (l := [⟨c, t, f, k⟩]) (own_in w 0 (Nat.zero_le _) c t f k _ rfl) (fun x hx' => by rw [List.mem_singleton] at hx'; subst hx'; exact hx)
def dZero : V.Da := ⟨0, 0, 0, [0, 0, 0, 0, 0, 0]⟩
theorem dZero_ok : dZero.ok := ⟨⟨by decide, by decide⟩, ⟨by decide, by decide⟩, ⟨by decide, by decide⟩, rfl, fun z hz => by simp [dZero] at hz; subst hz; exact ⟨by decide, by decide⟩⟩
/-- an attached filter: what is there then. -/
theorem AttT.yes {X Y : World} {b : Nat} {vc ve : Value} {ls : List (List V.In)} {l : List V.In} {e : Ending} (h : AttT X b vc ve ls l e Y) (h0 : attE ls l = 0) : e = .returned (.int .i64 0) ∧ X.grownBy Y (some b) ∧ ∃ vc' ve', StkV Y b vc' ve' (ls ++ [l]) := by
  obtain ⟨rfl, h2, h3⟩ := h
  refine ⟨by rw [h0], h2, ?_⟩
  rcases h3 with ⟨h4, _⟩ | ⟨_, vc', ve', h5, _⟩
  · exact absurd h0 h4
  · exact ⟨vc', ve', h5⟩
/-- whatever becomes of it: what is there then. -/
theorem AttT.any {X Y : World} {b : Nat} {vc ve : Value} {ls : List (List V.In)} {l : List V.In} {e : Ending} (h : AttT X b vc ve ls l e Y) : e = .returned (.int .i64 (attE ls l)) ∧ X.grownBy Y (some b) ∧ ∃ vc' ve', StkV Y b vc' ve' (attL ls l) := by
  obtain ⟨rfl, h2, h3⟩ := h
  refine ⟨rfl, h2, ?_⟩
  unfold attL
  rcases h3 with ⟨h4, h5⟩ | ⟨h4, vc', ve', h5, _⟩
  · rw [if_neg h4]
    exact ⟨_, _, h5⟩
  · rw [if_pos h4]
    exact ⟨_, _, h5⟩

set_option maxRecDepth 8000 in
set_option maxHeartbeats 4000000 in
theorem awake_any (X : World) : Calls Try.prog 8 #[] X fun e w' => e = .returned (.bool true) ∧ Below X.heap.size X w' := by
  obtain ⟨f1, hf1⟩ : ∃ f : List V.In, f = [⟨6, 0, 0, 2147418112⟩] := ⟨_, rfl⟩
  obtain ⟨f2, hf2⟩ : ∃ f : List V.In, f = [⟨6, 0, 0, 327681⟩] := ⟨_, rfl⟩
  have K1 : Hid (attE [] f1 = 0 ∧ OkS [f1] ∧ attE [f1] f2 = 0 ∧ OkS [f1, f2]) := by
    have e1 : attE [] f1 = 0 := by rw [hf1]; kernel_rfl
    have ok1 : OkS [f1] := okS_att okS_nil (fun x hx => by rw [hf1, List.mem_singleton] at hx; subst hx; unfold V.In.ok; decide) e1
    have e2 : attE [f1] f2 = 0 := by rw [hf1, hf2]; kernel_rfl
    exact ⟨e1, ok1, e2, okS_att ok1 (fun x hx => by rw [hf2, List.mem_singleton] at hx; subst hx; unfold V.In.ok; decide) e2⟩
  have K2 : Hid (A.most (ansL [f1, f2] dZero) = 327681 ∧ plN (ansL [f1, f2] dZero) = 1 ∧ costL [f1, f2] = 10) := by
    rw [hf1, hf2]
    exact ⟨by kernel_rfl, by kernel_rfl, by kernel_rfl⟩
  have HN : Hid (StkV (X.alloc (Obj.cells #[.slice none 0 0, .slice none 0 0] 34)) X.heap.size (.slice none 0 0) (.slice none 0 0) [] ∧ Below X.heap.size X (X.alloc (Obj.cells #[.slice none 0 0, .slice none 0 0] 34))) := ⟨stk_new X, below_new X _⟩
  have HF1 : Hid (∀ W : World, FlV (W.alloc (Obj.cells #[.int .u16 6, .int .u8 0, .int .u8 0, .int .u32 2147418112] 56)) (.slice (some ⟨W.heap.size, 0, none⟩) 1 1) f1) := fun W => by rw [hf1]; exact fl_in W 6 0 0 2147418112 (by unfold V.In.ok; decide)
  have HF2 : Hid (∀ W : World, FlV (W.alloc (Obj.cells #[.int .u16 6, .int .u8 0, .int .u8 0, .int .u32 327681] 56)) (.slice (some ⟨W.heap.size, 0, none⟩) 1 1) f2) := fun W => by rw [hf2]; exact fl_in W 6 0 0 327681 (by unfold V.In.ok; decide)
  clear hf1 hf2
  go_enter Try.func8, Try.ntmps8
  go_upto_region 2 with fail
  generalize (X.alloc (Obj.cells #[.slice none 0 0, .slice none 0 0] 34)) = X1 at *
  have H1 : Hid (Calls Try.prog 10 #[.pointer (some ⟨X.heap.size, 0, none⟩), .slice (some ⟨X1.heap.size, 0, none⟩) 1 1] (X1.alloc (Obj.cells #[.int .u16 6, .int .u8 0, .int .u8 0, .int .u32 2147418112] 56)) fun e Y => AttT _ X.heap.size _ _ [] f1 e Y) := attach_any _ X.heap.size _ _ _ [] f1 (HN.out.1.over (below_new _ _)) okS_nil (HF1.out X1)
  have HB1 : Hid (Below X.heap.size X (X1.alloc (Obj.cells #[.int .u16 6, .int .u8 0, .int .u8 0, .int .u32 2147418112] 56))) := HN.out.2.trans ((below_new _ _).mono HN.out.2.size)
  go_upto_region 3 with (first | (go_at_call 10; refine H1.out.mono ?_; rintro e w2 h2; obtain ⟨rfl, g2, vc2, ve2, s2⟩ := h2.yes K1.out.1))
  have HB2 : Hid (Below X.heap.size X w2) := HB1.out.trans (grown_below g2 (Nat.le_refl _) HB1.out.size)
  have H2 : Hid (Calls Try.prog 10 #[.pointer (some ⟨X.heap.size, 0, none⟩), .slice (some ⟨w2.heap.size, 0, none⟩) 1 1] (w2.alloc (Obj.cells #[.int .u16 6, .int .u8 0, .int .u8 0, .int .u32 327681] 56)) fun e Y => AttT _ X.heap.size _ _ [f1] f2 e Y) := attach_any _ X.heap.size _ _ _ [f1] f2 (s2.over (below_new _ _)) K1.out.2.1 (HF2.out w2)
  have HB3 : Hid (Below X.heap.size X (w2.alloc (Obj.cells #[.int .u16 6, .int .u8 0, .int .u8 0, .int .u32 327681] 56))) := HB2.out.trans ((below_new _ _).mono HB2.out.size)
  clear h2 g2 s2
  go_upto_region 4 with (first | (go_at_call 10; refine H2.out.mono ?_; rintro e w4 h4; obtain ⟨rfl, g4, vc4, ve4, s4⟩ := h4.yes K1.out.2.2.1))
  have HB4 : Hid (Below X.heap.size X w4) := HB3.out.trans (grown_below g4 (Nat.le_refl _) HB3.out.size)
  have HR : Hid (Calls Try.prog 15 #[.pointer (some ⟨X.heap.size, 0, none⟩), .agg #[.int .u32 0, .int .u32 0, .int .u64 0, .int .u64 0, .int .u64 0, .int .u64 0, .int .u64 0, .int .u64 0, .int .u64 0]] w4 fun e w' => e = .returned (.tuple #[.int .u32 327681, .int .i64 1]) ∧ Below w4.heap.size w4 w') := by
    have := run_any w4 X.heap.size vc4 ve4 [f1, f2] dZero s4 K1.out.2.2.2 dZero_ok
    rw [K2.out.1, K2.out.2.1] at this
    exact this
  have HS5 : Hid (∀ W, Below w4.heap.size w4 W → StkV W X.heap.size vc4 ve4 [f1, f2]) := fun W hW => s4.over hW
  have HLn : Hid (∀ W, Below w4.heap.size w4 W → Calls Try.prog 12 #[.pointer (some ⟨X.heap.size, 0, none⟩)] W fun e w' => e = .returned (.int .i64 2) ∧ w' = W) := fun W hW => len_any W X.heap.size vc4 ve4 [f1, f2] (HS5.out W hW)
  have HCo : Hid (∀ W, Below w4.heap.size w4 W → Calls Try.prog 13 #[.pointer (some ⟨X.heap.size, 0, none⟩)] W fun e w' => e = .returned (.int .i64 10) ∧ Below W.heap.size W w') := fun W hW => by
    have hc := K2.out.2.2
    have := cost_any W X.heap.size vc4 ve4 [f1, f2] (HS5.out W hW) (by rw [cost_flat] at hc; omega) (by simp)
    rw [hc] at this
    exact this
  clear h4 g4 s4
  go_wp2_with (first | (go_at_call 15; refine HR.out.mono ?_; rintro e w5 ⟨rfl, b5⟩) | (go_at_call 12; refine (HLn.out _ b5).mono ?_; rintro e w6 ⟨rfl, rfl⟩) | (go_at_call 13; refine (HCo.out _ b5).mono ?_; rintro e w7 ⟨rfl, b7⟩))
  go_ret
  have b57 := b5.trans (b7.mono b5.size)
  exact ⟨rfl, HB4.out.trans (b57.mono HB4.out.size)⟩

end Go.Proofs.Ytamioifoemklfaa

namespace Go.Proofs.Ytamioifoemklfaa
open Go.RowKit

/-- all filters, attached one by one. -/
def attAll : List (List V.In) → List (List V.In) → List (List V.In)
  | acc, [] => acc
  | acc, l :: ls => attAll (attL acc l) ls
theorem attAll_snoc (acc ls : List (List V.In)) (l : List V.In) : attAll acc (ls ++ [l]) = attL (attAll acc ls) l := by
  induction ls generalizing acc with
  | nil => rfl
  | cons k ls ih => exact ih _
theorem attAll_step {ls : List (List V.In)} {i : Nat} (h : i < ls.length) : attAll [] (ls.take (i + 1)) = attL (attAll [] (ls.take i)) ls[i] := by
  rw [List.take_succ_eq_append_getElem h, attAll_snoc]
theorem okS_all (acc ls : List (List V.In)) (h : OkS acc) (hl : ∀ l ∈ ls, ∀ x ∈ l, x.ok) : OkS (attAll acc ls) := by
  induction ls generalizing acc with
  | nil => exact h
  | cons l ls ih => exact ih _ (okS_attL h (hl l (List.mem_cons_self ..))) (fun k hk => hl k (List.mem_cons_of_mem _ hk))
/-- what was built is built again. -/
theorem attAll_ok {ls : List (List V.In)} (h : OkS ls) : attAll [] ls = ls := by
  have key : ∀ i, i ≤ ls.length → attAll [] (ls.take i) = ls.take i := by
    intro i
    induction i with
    | zero => intro _; rw [List.take_zero]; rfl
    | succ i ih =>
      intro hi
      rw [attAll_step (by omega), ih (by omega), attL, if_pos (att_again h (by omega)), List.take_succ_eq_append_getElem (by omega)]
  have := key ls.length (Nat.le_refl _)
  rw [List.take_length] at this
  exact this
theorem flR_ok {w : World} {v : Value} {ls : List (List V.In)} (h : FlR w v ls) : ∀ l ∈ ls, ∀ x ∈ l, x.ok := by
  intro l hl
  obtain ⟨i, hi, rfl⟩ := List.getElem_of_mem hl
  obtain ⟨a, cap, rfl, _⟩ := id h
  obtain ⟨_, _, _, _, _, _, _, _, _, hI, _⟩ := flR_at h hi
  exact hI.2.1

/-- filters in a row of slices of the call's own. -/
def FlO (X w : World) (B : Nat) (v : Value) (ls : List (List V.In)) : Prop := ∃ us, w.ownsRow B 31 1 v ls.length us ∧ ∀ (i : Nat) (l : List V.In), ls[i]? = some l → ∃ u, us[i]? = some u ∧ FlV X u l
theorem FlO.flR {X w : World} {B : Nat} {v : Value} {ls : List (List V.In)} (h : FlO X w B v ls) (hb : Below X.heap.size X w) : FlR w v ls := by
  obtain ⟨us, ho, hc⟩ := h
  rcases ho.2 with ⟨rfl, h0⟩ | ⟨g, cap, cur, rfl, _, _, h1, h2, _⟩
  · exact ⟨none, 0, by rw [h0], by omega, by decide, fun h => by omega⟩
  · refine ⟨_, cap, rfl, h1, by unfold maxLen at h2; omega, fun _ => ⟨g, 0, rfl, fun i l hi => ?_⟩⟩
    obtain ⟨u, hu, hf⟩ := hc i l hi
    have := ho.cells (g := g) rfl i u hu
    rw [Addr.add_lit] at this
    exact ⟨u, this, hf.below hb⟩
theorem FlO.over {X w w' : World} {B : Nat} {v : Value} {ls : List (List V.In)} (h : FlO X w B v ls) (hb : Below w.heap.size w w') : FlO X w' B v ls := by
  obtain ⟨us, ho, hc⟩ := h
  exact ⟨us, own_over ho hb, hc⟩
theorem FlO.kept {X w w' : World} {B b : Nat} {v : Value} {ls : List (List V.In)} {cs : List Value} (h : FlO X w B v ls) (hk : V.Blk w b 34 cs) (hg : w.grownBy w' (some b)) : FlO X w' B v ls := by
  obtain ⟨us, ho, hc⟩ := h
  exact ⟨us, ho.kept hg (row_ne (by decide) ho hk), hc⟩
theorem blk_row_ne {X : World} {b c s : Nat} {t t' : TypeId} {v : Value} {n : Nat} {xs cs : List Value} (ht : t ≠ t') (h : X.ownsRow c t s v n xs) (h' : V.Blk X b t' cs) : some b ≠ v.ownBlock := by
  rcases row_ne ht h h' with e | e
  · rw [e]; intro h; cases h
  · exact fun h => e h.symm
theorem StkV.row {X Y : World} {b B s : Nat} {t : TypeId} {vc ve v : Value} {n : Nat} {us : List Value} {ls : List (List V.In)} (h : StkV X b vc ve ls) (ho : X.ownsRow B t s v n us) (h1 : t ≠ 34) (h2 : t ≠ 56) (h3 : t ≠ 3) (hg : X.grownBy Y v.ownBlock) : StkV Y b vc ve ls :=
  ⟨blk_grown h.blk hg (blk_row_ne h1 ho h.blk), h.code.kept hg (own_ne (Ne.symm h2) h.code ho), h.ends.kept hg (own_ne (Ne.symm h3) h.ends ho)⟩
theorem AttT.fresh {X Y : World} {b : Nat} {vc ve : Value} {ls : List (List V.In)} {l : List V.In} {e : Ending} (h : AttT X b vc ve ls l e Y) : e = .returned (.int .i64 (attE ls l)) ∧ X.grownBy Y (some b) ∧ ∃ vc' ve', StkV Y b vc' ve' (attL ls l) ∧ ∀ B, B ≤ X.heap.size → (∀ j, vc.ownBlock = some j → B ≤ j) → ∀ j, vc'.ownBlock = some j → B ≤ j := by
  obtain ⟨rfl, h2, h3⟩ := h
  refine ⟨rfl, h2, ?_⟩
  unfold attL
  rcases h3 with ⟨h4, h5⟩ | ⟨h4, vc', ve', h5, h6, _⟩
  · rw [if_neg h4]
    exact ⟨_, _, h5, fun B _ hB => hB⟩
  · rw [if_pos h4]
    exact ⟨_, _, h5, fun B hB _ j hj => Nat.le_trans hB (h6 j hj)⟩
/-- a slice appended to a row of slices. -/
theorem app_filt {w : World} {ops : Array Oper} {rest : List Oper} {o : Oper} {a : Act} {Q : Exit → Act → World → Prop} (hgd : o.guard = none) (s x : Operand)
    (ho : o.op = .call { callee := .builtin .append, args := #[s, x], argTypes := #[22, 22] })
    (base : Nat) (v : Value) (n : Nat) (vs : List Value) (hs : a.eval s = v) (hown : w.ownsRow base 31 1 v n vs) (ad : Addr) (u : Value) (hx : a.eval x = .slice (some ad) 1 1) (hu : w.cell? ad = some u) (h1 : u.oneCell' = true)
    (hn : n ≤ 100000) (hbase : base ≤ w.heap.size)
    (h : ∀ v' w', GrwF w w' base v v' (n + 1) (vs ++ [u]) → wpList Try.prog ops Q rest (a.put o.dst v') w') : wpList Try.prog ops Q (o :: rest) a w := by
  obtain ⟨v', w', hrun, hG⟩ := run_appF o.type base v n vs hown ad u hu h1 hn hbase
  refine wpList_plain hgd fun K hK => ?_
  unfold Oper.wp execOp
  simp only [ho, resolve, invoke, builtin, Sem.run_bind, Sem.run_pure, Result.andThen_ok, List.map_toArray, List.map_cons, List.map_nil, hs, hx, hrun]
  exact hK _ _ (h v' w' hG)
theorem FlO.app {X w w' : World} {B : Nat} {v v' u : Value} {ls : List (List V.In)} {l : List V.In} {us : List Value} (hc : ∀ (i : Nat) (l : List V.In), ls[i]? = some l → ∃ u, us[i]? = some u ∧ FlV X u l) (hl : us.length = ls.length) (hf : FlV X u l) (h : GrwF w w' B v v' (ls.length + 1) (us ++ [u])) : FlO X w' B v' (ls ++ [l]) := by
  refine ⟨us ++ [u], by rw [List.length_append, List.length_singleton]; exact h.own, fun i k hi => ?_⟩
  by_cases hlt : i < ls.length
  · rw [List.getElem?_append_left hlt] at hi
    obtain ⟨y, hy, hf2⟩ := hc i k hi
    exact ⟨y, by rw [List.getElem?_append_left (by omega)]; exact hy, hf2⟩
  · have hil := (List.getElem?_eq_some_iff.1 hi).1
    rw [List.length_append, List.length_singleton] at hil
    have e : i = ls.length := by omega
    subst e
    rw [List.getElem?_append_right (Nat.le_refl _), Nat.sub_self] at hi
    cases hi
    exact ⟨u, by rw [List.getElem?_append_right (by omega), hl, Nat.sub_self]; rfl, hf⟩

/-- what built tells. -/
def BltT (X : World) (ls : List (List V.In)) (e : Ending) (Y : World) : Prop :=
  ∃ b vc ve vi, e = .returned (.tuple #[.pointer (some ⟨b, 0, none⟩), vi]) ∧ StkV Y b vc ve (attAll [] ls) ∧ X.heap.size ≤ b ∧ FlO X Y X.heap.size vi (attAll [] ls) ∧ (∀ j, vc.ownBlock = some j → X.heap.size ≤ j) ∧ Below X.heap.size X Y

set_option maxRecDepth 8000 in
set_option maxHeartbeats 4000000 in
theorem built_any (X : World) (v : Value) (ls : List (List V.In)) (h : FlR X v ls) :
    Calls Try.prog 17 #[v] X fun e Y => BltT X ls e Y := by
  obtain ⟨p1, c1, rfl, hk1, hk2⟩ : ∃ p c, v = .slice p ls.length c ∧ ls.length ≤ c ∧ c ≤ 9223372036854775807 := by obtain ⟨p, c, e, h1, h2, _⟩ := h; exact ⟨p, c, e, h1, h2⟩
  have HF : Hid (FlR X (.slice p1 ls.length c1) ls) := h
  have HN : Hid (StkV (X.alloc (Obj.cells #[.slice none 0 0, .slice none 0 0] 34)) X.heap.size (.slice none 0 0) (.slice none 0 0) [] ∧ Below X.heap.size X (X.alloc (Obj.cells #[.slice none 0 0, .slice none 0 0] 34))) := ⟨stk_new X, below_new X _⟩
  clear h
  go_enter Try.func17, Try.ntmps17
  go_wp2_with fail
  generalize (X.alloc (Obj.cells #[.slice none 0 0, .slice none 0 0] 34)) = X1 at *
  go_loopw [5, 6] (fun v5 vi wr => ∃ (i : Nat) (vc ve : Value), vi = .int .i64 i ∧ i ≤ ls.length ∧ StkV wr X.heap.size vc ve (attAll [] (ls.take i)) ∧ FlO X wr X.heap.size v5 (attAll [] (ls.take i)) ∧ (∀ j, vc.ownBlock = some j → X.heap.size ≤ j) ∧ Below X.heap.size X wr) (fun _ vi _ => ls.length - (intOf vi).toNat)
  case atStart => exact ⟨0, _, _, rfl, Nat.zero_le _, HN.out.1, ⟨[], ⟨rfl, .inl ⟨rfl, rfl⟩⟩, fun i l hi => (by cases hi)⟩, fun j hj => (by cases hj), HN.out.2⟩
  case round =>
    obtain ⟨i, vc, ve, rfl, hi2, hs, ho, hfr, hb⟩ := hrel
    have HS : Hid (StkV wr X.heap.size vc ve (attAll [] (ls.take i))) := hs
    have HB : Hid (Below X.heap.size X wr) := hb
    have HFr : Hid (∀ j, vc.ownBlock = some j → X.heap.size ≤ j) := hfr
    obtain ⟨us, ho, hc⟩ := ho
    have HO : Hid (wr.ownsRow X.heap.size 31 1 _ (attAll [] (ls.take i)).length us) := ho
    have HC : Hid (∀ (j : Nat) (l : List V.In), (attAll [] (ls.take i))[j]? = some l → ∃ u, us[j]? = some u ∧ FlV X u l) := hc
    obtain ⟨a5, q5, rfl⟩ := own_slice ho
    clear ho hc hs hfr
    by_cases hlt : i < ls.length
    · have hi1 : (i : Int) < (ls.length : Int) := by omega
      obtain ⟨fb, fo, fa, fc, rfl, e1, e2⟩ := flR_at HF.out hlt
      have HE2 : Hid (FlV X (.slice fa ls[i].length fc) ls[i]) := e2
      have HOk : Hid (OkS (attAll [] (ls.take i))) := okS_all [] _ okS_nil (fun l hl => flR_ok HF.out l (List.mem_of_mem_take hl))
      have HST : Hid (attAll [] (ls.take (i + 1)) = attL (attAll [] (ls.take i)) ls[i]) := attAll_step hlt
      have h32 := HOk.out.2.1
      have HAt : Hid (Calls Try.prog 10 #[.pointer (some ⟨X.heap.size, 0, none⟩), .slice fa ls[i].length fc] wr fun e Y => AttT wr X.heap.size vc ve (attAll [] (ls.take i)) ls[i] e Y) := attach_any wr X.heap.size vc ve _ _ _ HS.out HOk.out (HE2.out.below HB.out)
      have c1' := cellK e1 HB.out
      have HCk : Hid (∀ W, Below X.heap.size X W → W.cell? ⟨fb, fo + i, none⟩ = some (.slice fa ls[i].length fc)) := fun W hW => cellK e1 hW
      clear e1 e2
      generalize ls[i] = li at *
      generalize attAll [] (ls.take i) = acc at *
      by_cases h0 : attE acc li = 0
      · have hL : attL acc li = acc ++ [li] := by unfold attL; rw [if_pos h0]
        have HL : Hid (attL acc li = acc ++ [li]) := hL
        clear hL
        have hq : (attE acc li == 0) = true := by rw [h0]; rfl
        clear h0
        go_upto_region 7 with (first | (go_at_call 10; refine HAt.out.mono ?_; rintro e w2 h2; obtain ⟨rfl, g2, vc2, ve2, s2, f2⟩ := h2.fresh))
        have HB2 : Hid (Below X.heap.size X w2) := HB.out.trans (grown_below g2 (Nat.le_refl _) HB.out.size)
        have c2 := HCk.out w2 HB2.out
        have HO2 : Hid (w2.ownsRow X.heap.size 31 1 (.slice a5 acc.length q5) acc.length us) := HO.out.kept g2 (row_ne (by decide) HO.out HS.out.blk)
        have HS2 : Hid (StkV w2 X.heap.size vc2 ve2 (attL acc li)) := s2
        have HF2 : Hid (∀ j, vc2.ownBlock = some j → X.heap.size ≤ j) := f2 _ HB.out.size HFr.out
        clear h2 g2 s2 f2 c1'
        go_wp2_with (first | (at_builtin; refine app_filt rfl _ _ rfl X.heap.size _ acc.length us rfl (HO2.out.alloc _) ⟨w2.heap.size, 0, none⟩ (.slice fa li.length fc) rfl (cell_one_new' _ _ _) rfl (by omega) (by have := HB2.out.size; simp; omega) ?_; intro v' w3 hg3; go_frame))
        go_roundw
        case rel =>
          have g3 := hg3.grown
          have ob := V.owns_block (HO2.out.alloc (Obj.cells #[.slice fa li.length fc] 31))
          refine ⟨i + 1, vc2, ve2, by go_num, hlt, ?_, ?_, HF2.out, ?_⟩
          · rw [HST.out]
            exact (HS2.out.over (below_new w2 _)).row (HO2.out.alloc _) (by decide) (by decide) (by decide) g3
          · rw [HST.out, HL.out]
            exact FlO.app HC.out (by have := HO2.out.1; omega) HE2.out hg3
          · exact (HB2.out.alloc HB2.out.size _).grown g3 (by have := HB2.out.size; simp; omega) ob
        case measure => simp [intOf]; omega
      · have hL : attL acc li = acc := by unfold attL; rw [if_neg h0]
        have HL : Hid (attL acc li = acc) := hL
        clear hL
        have hq : (attE acc li == 0) = false := by simpa using h0
        clear h0
        go_wp2_with (first | (go_at_call 10; refine HAt.out.mono ?_; rintro e w2 h2; obtain ⟨rfl, g2, vc2, ve2, s2, f2⟩ := h2.fresh))
        go_roundw
        case rel =>
          refine ⟨i + 1, vc2, ve2, by go_num, hlt, by rw [HST.out]; exact s2, ?_, f2 _ HB.out.size HFr.out, HB.out.trans (grown_below g2 (Nat.le_refl _) HB.out.size)⟩
          rw [HST.out, HL.out]
          exact ⟨us, HO.out.kept g2 (row_ne (by decide) HO.out HS.out.blk), HC.out⟩
        case measure => simp [intOf]; omega
    · have hi1 : ¬ (i : Int) < (ls.length : Int) := by omega
      have ei : ls.take i = ls := List.take_of_length_le (by omega)
      have HE : Hid (BltT X ls (.returned (.tuple #[.pointer (some ⟨X.heap.size, 0, none⟩), .slice a5 (attAll [] (ls.take i)).length q5])) wr) := ⟨X.heap.size, vc, ve, _, rfl, by have := HS.out; rw [ei] at this; exact this, Nat.le_refl _, ⟨us, by have := HO.out; rw [ei] at this; rw [ei]; exact this, by have := HC.out; rw [ei] at this; exact this⟩, HFr.out, HB.out⟩
      clear ei
      go_wp2_with fail
      go_ret2
      exact HE.out

end Go.Proofs.Ytamioifoemklfaa
