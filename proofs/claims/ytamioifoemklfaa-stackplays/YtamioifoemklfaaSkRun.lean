/-
  What a stack answers, by the document.
-/
import Derived.Test.YtamioifoemklfaaSkRow
import Derived.Test.YtamioifoemklfaaSkMath
import Derived.Test.YtamioifoemklfaaSkAns
import Derived.Test.YtamioifoemklfaaVVRun
import Derived.Test.YtamioifoemklfaaARefMost
import Derived.Deep.RegionHeld3
import Derived.Deep.DeepCutAuto
import Derived.BigQuiet
namespace Go.Proofs.Ytamioifoemklfaa
open Go.RowKit

/-- what a run by the document is to tell. -/
def RefRunC : Prop := ∀ (W : World) (a : Option Addr) (cap : Nat) (l : List V.In) (d : V.Da), V.Ins W a l.length l → l.length ≤ maxLen → d.ok → Calls Try.prog 26 #[.slice a l.length cap, .agg d.cells.toArray] W fun e w' => V.RunTold W w' e l d

set_option linter.unusedSimpArgs false in
set_option maxRecDepth 8000 in
set_option maxHeartbeats 4000000 in
theorem rrun_of (hRun : RefRunC) (X : World) (b : Nat) (vL : Value) (ls : List (List V.In)) (d : V.Da) (hk : V.Blk X b 37 [vL]) (h : FlR X vL ls) (hl : ls.length ≤ 100) (hd : d.ok) :
    Calls Try.prog 16 #[.pointer (some ⟨b, 0, none⟩), .agg d.cells.toArray] X fun e w' => e = .returned (.tuple #[.int .u32 (A.most (ansL ls d)), .int .i64 (plN (ansL ls d))]) ∧ Below X.heap.size X w' := by
  obtain ⟨p1, c1, rfl, hk1, hk2⟩ : ∃ p c, vL = .slice p ls.length c ∧ ls.length ≤ c ∧ c ≤ 9223372036854775807 := by obtain ⟨p, c, e, h1, h2, _⟩ := h; exact ⟨p, c, e, h1, h2⟩
  have HR : Hid (∀ W a cap (l : List V.In), V.Ins W a l.length l → l.length ≤ maxLen → Calls Try.prog 26 #[.slice a l.length cap, .agg d.cells.toArray] W fun e w' => V.RunTold W w' e l d) := fun W a cap l h1 h2 => hRun W a cap l d h1 h2 hd
  have HUu : Hid (∀ z ∈ ansL ls d, A.U32 z) := fun z hz => by
    unfold ansL at hz
    rw [List.mem_reverse] at hz
    obtain ⟨l, hl, rfl⟩ := List.mem_map.1 hz
    obtain ⟨i, hi, rfl⟩ := List.getElem_of_mem hl
    obtain ⟨_, _, _, _, _, _, _, _, _, fi, _⟩ := flR_at h hi
    exact ansV_u _ d fi.2.1 hd
  obtain ⟨d1v, d2v, d3v, d4v, d5v, d6v, d7v, d8v, hAA⟩ := nine_of d hd
  rw [hAA] at HR ⊢
  obtain ⟨i0, hi, hz0, hz1, hz2⟩ := info_parts Try.infoU
  have BE : Hid (Below X.heap.size X (X.alloc (Obj.cells #[.int .u32 d.n, d1v, d2v, d3v, d4v, d5v, d6v, d7v, d8v] 27))) := below_new X _
  have KD : Hid (V.Blk (X.alloc (Obj.cells #[.int .u32 d.n, d1v, d2v, d3v, d4v, d5v, d6v, d7v, d8v] 27)) X.heap.size 27 [.int .u32 d.n, d1v, d2v, d3v, d4v, d5v, d6v, d7v, d8v]) := V.blk_new X _ _
  have HF : Hid (∀ W, Below X.heap.size X W → FlR W (.slice p1 ls.length c1) ls ∧ W.cell? ⟨b, 0, none⟩ = some (.slice p1 ls.length c1)) := fun W hW => ⟨h.below hW, (hk.over hW).cell 0⟩
  have c0 := (HF.out _ BE.out).2
  have e0 : IntKind.i64.wrap ((ls.length : Int) - 1) = (ls.length : Int) - 1 := by rw [IntKind.wrap_i64]; omega
  clear h hk hAA
  generalize hdn : d.n = dn at *
  go_enter Try.func16, Try.ntmps16
  go_wp2_with fail
  generalize (X.alloc (Obj.cells #[.int .u32 dn, d1v, d2v, d3v, d4v, d5v, d6v, d7v, d8v] 27)) = X1 at *
  clear c0
  go_loopw [6, 7] (fun v6 vi wr => ∃ (i : Nat), vi = .int .i64 ((i : Int) - 1) ∧ i ≤ ls.length ∧ wr.ownsRow X1.heap.size 23 1 v6 (ansL (ls.drop i) d).length (cellsZ (ansL (ls.drop i) d)) ∧ Below X1.heap.size X1 wr) (fun _ vi _ => (intOf vi + 1).toNat)
  case atStart => exact ⟨ls.length, rfl, Nat.le_refl _, by rw [List.drop_length]; exact ⟨rfl, .inl ⟨rfl, rfl⟩⟩, Below.refl _ _⟩
  case round =>
    obtain ⟨i, rfl, hi2, ho, hb⟩ := hrel
    obtain ⟨hfl, c0⟩ := HF.out wr (BE.out.trans (hb.mono BE.out.size))
    have HO : Hid (wr.ownsRow X1.heap.size 23 1 _ (ansL (ls.drop i) d).length (cellsZ (ansL (ls.drop i) d))) := ho
    have HB : Hid (Below X1.heap.size X1 wr) := hb
    obtain ⟨a6, q6, rfl⟩ := own_slice ho
    clear ho
    cases i with
    | succ j =>
      obtain ⟨fb, fo, fa, fc, rfl, e1, e2⟩ := flR_at (HF.out X (Below.refl _ _)).1 hi2
      have ej : (((j + 1 : Nat) : Int) - 1) = (j : Int) := by omega
      rw [ej]
      have HST : Hid (ansL (ls.drop j) d = ansL (ls.drop (j + 1)) d ++ [V.ansV ls[j] d]) := ans_step hi2
      have hjl : (ansL (ls.drop (j + 1)) d).length ≤ 100 := by rw [ansL_len, List.length_drop]; omega
      obtain ⟨fa', fc', ef, fi, fm, _, _⟩ := e2
      cases ef
      have HFi : Hid (∀ W, Below X1.heap.size X1 W → W.cell? ⟨b, 0, none⟩ = some (.slice (some ⟨fb, fo, none⟩) ls.length c1) ∧ W.cell? ⟨fb, fo + j, none⟩ = some (.slice fa ls[j].length fc) ∧ V.Blk W X.heap.size 27 [.int .u32 dn, d1v, d2v, d3v, d4v, d5v, d6v, d7v, d8v]) := fun W hW => ⟨(HF.out W (BE.out.trans (hW.mono BE.out.size))).2, cellK e1 (BE.out.trans (hW.mono BE.out.size)), KD.out.over hW⟩
      have HRx : Hid (∀ W, Below X1.heap.size X1 W → Calls Try.prog 26 #[.slice fa ls[j].length fc, .agg #[.int .u32 dn, d1v, d2v, d3v, d4v, d5v, d6v, d7v, d8v]] W fun e w' => V.RunTold W w' e ls[j] d) := fun W hW => HR.out W fa fc ls[j] (fi.below (BE.out.trans (hW.mono BE.out.size))) fm
      unfold V.RunTold at HRx
      generalize ls[j] = fl at *
      generalize V.ansV fl d = av at *
      generalize V.plV fl d = pv at *
      generalize V.errV fl = ev at *
      clear e1 fi fm hfl c0
      have hj1 : (j : Int) < (ls.length : Int) := by omega
      have hj0 : (0 : Int) ≤ (j : Int) := by omega
      have em : IntKind.i64.wrap ((j : Int) - 1) = (j : Int) - 1 := by rw [IntKind.wrap_i64]; omega
      go_upto_region 5 with fail
      have hHx : Below X1.heap.size X1 wr.drew := HB.out.drew
      have hS0 := HFi.out wr.drew hHx
      have hSb : ∀ W, Below wr.drew.heap.size wr.drew W → (fun w' => w'.cell? ⟨b, 0, none⟩ = some (.slice (some ⟨fb, fo, none⟩) ls.length c1) ∧ w'.cell? ⟨fb, fo + j, none⟩ = some (.slice fa fl.length fc) ∧ V.Blk w' X.heap.size 27 [.int .u32 dn, d1v, d2v, d3v, d4v, d5v, d6v, d7v, d8v]) W := fun W hW => HFi.out W (hHx.trans (hW.mono hHx.size))
      have HO2 : Hid (wr.drew.ownsRow X1.heap.size 23 1 (.slice a6 (ansL (ls.drop (j + 1)) d).length q6) (ansL (ls.drop (j + 1)) d).length (cellsZ (ansL (ls.drop (j + 1)) d))) := HO.out.drew
      refine wp_region_held_drew (S := (fun w' => w'.cell? ⟨b, 0, none⟩ = some (.slice (some ⟨fb, fo, none⟩) ls.length c1) ∧ w'.cell? ⟨fb, fo + j, none⟩ = some (.slice fa fl.length fc) ∧ V.Blk w' X.heap.size 27 [.int .u32 dn, d1v, d2v, d3v, d4v, d5v, d6v, d7v, d8v])) (by kernel_rfl) (hS0) (fun hHeld => ?_)
      simp only [List.size_toArray, List.length_cons, List.length_nil, Nat.reduceAdd]
      generalize wr.drew = Z at *
      refine wpAnyH_take (i := 0) (v := ?_) rfl (by kernel_rfl) (by kernel_rfl) (by kernel_rfl) (fun _ _ _ h => h) (Or.inl ⟨by rfl, ?_⟩) hHeld ?_
      rotate_left
      · (intro w hSw; (try dsimp only at hSw); have s0 := hSw.1; have s1 := hSw.2.1; have n0 := hSw.2.2.cell 0; have n1 := hSw.2.2.cell 1; have n2 := hSw.2.2.cell 2; have n3 := hSw.2.2.cell 3; have n4 := hSw.2.2.cell 4; have n5 := hSw.2.2.cell 5; have n6 := hSw.2.2.cell 6; have n7 := hSw.2.2.cell 7; have n8 := hSw.2.2.cell 8; go_simp; try with_reducible rfl)
      try simp only [Act.put, List.setIfInBounds_toArray, List.set_cons_zero, List.set_cons_succ, List.getElem_toArray, List.getElem_cons_zero, List.getElem_cons_succ]
      refine wpAnyH_take (i := 1) (v := ?_) rfl (by kernel_rfl) (by kernel_rfl) (by kernel_rfl) (fun _ _ _ h => h) (Or.inl ⟨by rfl, ?_⟩) hHeld ?_
      rotate_left
      · (intro w hSw; (try dsimp only at hSw); have s0 := hSw.1; have s1 := hSw.2.1; have n0 := hSw.2.2.cell 0; have n1 := hSw.2.2.cell 1; have n2 := hSw.2.2.cell 2; have n3 := hSw.2.2.cell 3; have n4 := hSw.2.2.cell 4; have n5 := hSw.2.2.cell 5; have n6 := hSw.2.2.cell 6; have n7 := hSw.2.2.cell 7; have n8 := hSw.2.2.cell 8; go_simp; try with_reducible rfl)
      try simp only [Act.put, List.setIfInBounds_toArray, List.set_cons_zero, List.set_cons_succ, List.getElem_toArray, List.getElem_cons_zero, List.getElem_cons_succ]
      refine wpAnyH_take (i := 2) (v := ?_) rfl (by kernel_rfl) (by kernel_rfl) (by kernel_rfl) (fun _ _ _ h => h) (Or.inl ⟨by rfl, ?_⟩) hHeld ?_
      rotate_left
      · (intro w hSw; (try dsimp only at hSw); have s0 := hSw.1; have s1 := hSw.2.1; have n0 := hSw.2.2.cell 0; have n1 := hSw.2.2.cell 1; have n2 := hSw.2.2.cell 2; have n3 := hSw.2.2.cell 3; have n4 := hSw.2.2.cell 4; have n5 := hSw.2.2.cell 5; have n6 := hSw.2.2.cell 6; have n7 := hSw.2.2.cell 7; have n8 := hSw.2.2.cell 8; go_simp; try with_reducible rfl)
      try simp only [Act.put, List.setIfInBounds_toArray, List.set_cons_zero, List.set_cons_succ, List.getElem_toArray, List.getElem_cons_zero, List.getElem_cons_succ]
      refine wpAnyH_take (i := 3) (v := ?_) rfl (by kernel_rfl) (by kernel_rfl) (by kernel_rfl) (fun _ _ _ h => h) (Or.inl ⟨by rfl, ?_⟩) hHeld ?_
      rotate_left
      · (intro w hSw; (try dsimp only at hSw); have s0 := hSw.1; have s1 := hSw.2.1; have n0 := hSw.2.2.cell 0; have n1 := hSw.2.2.cell 1; have n2 := hSw.2.2.cell 2; have n3 := hSw.2.2.cell 3; have n4 := hSw.2.2.cell 4; have n5 := hSw.2.2.cell 5; have n6 := hSw.2.2.cell 6; have n7 := hSw.2.2.cell 7; have n8 := hSw.2.2.cell 8; go_simp; try with_reducible rfl)
      try simp only [Act.put, List.setIfInBounds_toArray, List.set_cons_zero, List.set_cons_succ, List.getElem_toArray, List.getElem_cons_zero, List.getElem_cons_succ]
      refine wpAnyH_take (i := 4) (v := ?_) rfl (by kernel_rfl) (by kernel_rfl) (by kernel_rfl) (fun _ _ _ h => h) (Or.inl ⟨by rfl, ?_⟩) hHeld ?_
      rotate_left
      · (intro w hSw; (try dsimp only at hSw); have s0 := hSw.1; have s1 := hSw.2.1; have n0 := hSw.2.2.cell 0; have n1 := hSw.2.2.cell 1; have n2 := hSw.2.2.cell 2; have n3 := hSw.2.2.cell 3; have n4 := hSw.2.2.cell 4; have n5 := hSw.2.2.cell 5; have n6 := hSw.2.2.cell 6; have n7 := hSw.2.2.cell 7; have n8 := hSw.2.2.cell 8; go_simp; try with_reducible rfl)
      try simp only [Act.put, List.setIfInBounds_toArray, List.set_cons_zero, List.set_cons_succ, List.getElem_toArray, List.getElem_cons_zero, List.getElem_cons_succ]
      refine wpAnyH_take (i := 5) (v := ?_) rfl (by kernel_rfl) (by kernel_rfl) (by kernel_rfl) (fun _ _ _ h => h) (Or.inl ⟨by rfl, ?_⟩) hHeld ?_
      rotate_left
      · (intro w hSw; (try dsimp only at hSw); have s0 := hSw.1; have s1 := hSw.2.1; have n0 := hSw.2.2.cell 0; have n1 := hSw.2.2.cell 1; have n2 := hSw.2.2.cell 2; have n3 := hSw.2.2.cell 3; have n4 := hSw.2.2.cell 4; have n5 := hSw.2.2.cell 5; have n6 := hSw.2.2.cell 6; have n7 := hSw.2.2.cell 7; have n8 := hSw.2.2.cell 8; go_simp; try with_reducible rfl)
      try simp only [Act.put, List.setIfInBounds_toArray, List.set_cons_zero, List.set_cons_succ, List.getElem_toArray, List.getElem_cons_zero, List.getElem_cons_succ]
      refine wpAnyH_take (i := 6) (v := ?_) rfl (by kernel_rfl) (by kernel_rfl) (by kernel_rfl) (fun _ _ _ h => h) (Or.inl ⟨by rfl, ?_⟩) hHeld ?_
      rotate_left
      · (intro w hSw; (try dsimp only at hSw); have s0 := hSw.1; have s1 := hSw.2.1; have n0 := hSw.2.2.cell 0; have n1 := hSw.2.2.cell 1; have n2 := hSw.2.2.cell 2; have n3 := hSw.2.2.cell 3; have n4 := hSw.2.2.cell 4; have n5 := hSw.2.2.cell 5; have n6 := hSw.2.2.cell 6; have n7 := hSw.2.2.cell 7; have n8 := hSw.2.2.cell 8; go_simp; try with_reducible rfl)
      try simp only [Act.put, List.setIfInBounds_toArray, List.set_cons_zero, List.set_cons_succ, List.getElem_toArray, List.getElem_cons_zero, List.getElem_cons_succ]
      refine wpAnyH_take (i := 7) (v := ?_) rfl (by kernel_rfl) (by kernel_rfl) (by kernel_rfl) (fun _ _ _ h => h) (Or.inl ⟨by rfl, ?_⟩) hHeld ?_
      rotate_left
      · (intro w hSw; (try dsimp only at hSw); have s0 := hSw.1; have s1 := hSw.2.1; have n0 := hSw.2.2.cell 0; have n1 := hSw.2.2.cell 1; have n2 := hSw.2.2.cell 2; have n3 := hSw.2.2.cell 3; have n4 := hSw.2.2.cell 4; have n5 := hSw.2.2.cell 5; have n6 := hSw.2.2.cell 6; have n7 := hSw.2.2.cell 7; have n8 := hSw.2.2.cell 8; go_simp; try with_reducible rfl)
      try simp only [Act.put, List.setIfInBounds_toArray, List.set_cons_zero, List.set_cons_succ, List.getElem_toArray, List.getElem_cons_zero, List.getElem_cons_succ]
      refine wpAnyH_ready (rs := [8]) (by kernel_rfl) (by simp) ?_
      refine AllReadyH.cons rfl (fun K hK => ?_) AllReadyH.nil
      go_simp
      refine (HRx.out _ hHx).mono ?_
      rintro e w4 ⟨rfl, b4⟩
      have hS4 := hSb w4 b4
      go_wp2_with fail
      refine hK.out _ _ (hS4) (fun hHeld => ?_)
      clear hK K
      try simp only [Act.put, List.setIfInBounds_toArray, List.set_cons_zero, List.set_cons_succ, List.getElem_toArray, List.getElem_cons_zero, List.getElem_cons_succ]
      refine wpAnyH_take (i := 9) (v := ?_) rfl (by kernel_rfl) (by kernel_rfl) (by kernel_rfl) (fun _ _ _ h => h) (Or.inl ⟨by rfl, ?_⟩) hHeld ?_
      rotate_left
      · (intro w hSw; (try dsimp only at hSw); go_simp; try with_reducible rfl)
      try simp only [Act.put, List.setIfInBounds_toArray, List.set_cons_zero, List.set_cons_succ, List.getElem_toArray, List.getElem_cons_zero, List.getElem_cons_succ]
      refine wpAnyH_take (i := 10) (v := ?_) rfl (by kernel_rfl) (by kernel_rfl) (by kernel_rfl) (fun _ _ _ h => h) (Or.inl ⟨by rfl, ?_⟩) hHeld ?_
      rotate_left
      · (intro w hSw; (try dsimp only at hSw); go_simp; try with_reducible rfl)
      try simp only [Act.put, List.setIfInBounds_toArray, List.set_cons_zero, List.set_cons_succ, List.getElem_toArray, List.getElem_cons_zero, List.getElem_cons_succ]
      refine wpAnyH_take (i := 11) (v := ?_) rfl (by kernel_rfl) (by kernel_rfl) (by kernel_rfl) (fun _ _ _ h => h) (Or.inl ⟨by rfl, ?_⟩) hHeld ?_
      rotate_left
      · (intro w hSw; (try dsimp only at hSw); go_simp; try with_reducible rfl)
      try simp only [Act.put, List.setIfInBounds_toArray, List.set_cons_zero, List.set_cons_succ, List.getElem_toArray, List.getElem_cons_zero, List.getElem_cons_succ]
      refine wpAnyH_take (i := 12) (v := ?_) rfl (by kernel_rfl) (by kernel_rfl) (by kernel_rfl) (fun _ _ _ h => h) (Or.inl ⟨by rfl, ?_⟩) hHeld ?_
      rotate_left
      · (intro w hSw; (try dsimp only at hSw); go_simp; try with_reducible rfl)
      try simp only [Act.put, List.setIfInBounds_toArray, List.set_cons_zero, List.set_cons_succ, List.getElem_toArray, List.getElem_cons_zero, List.getElem_cons_succ]
      refine wpAnyH_take (i := 13) (v := ?_) rfl (by kernel_rfl) (by kernel_rfl) (by kernel_rfl) (fun _ _ _ h => h) (Or.inl ⟨by rfl, ?_⟩) hHeld ?_
      rotate_left
      · (intro w hSw; (try dsimp only at hSw); go_simp; try with_reducible rfl)
      try simp only [Act.put, List.setIfInBounds_toArray, List.set_cons_zero, List.set_cons_succ, List.getElem_toArray, List.getElem_cons_zero, List.getElem_cons_succ]
      refine wpAnyH_take (i := 14) (v := ?_) rfl (by kernel_rfl) (by kernel_rfl) (by kernel_rfl) (fun _ _ _ h => h) (Or.inl ⟨by rfl, ?_⟩) hHeld ?_
      rotate_left
      · (intro w hSw; (try dsimp only at hSw); go_simp; try with_reducible rfl)
      try simp only [Act.put, List.setIfInBounds_toArray, List.set_cons_zero, List.set_cons_succ, List.getElem_toArray, List.getElem_cons_zero, List.getElem_cons_succ]
      refine wpAnyH_take (i := 15) (v := ?_) rfl (by kernel_rfl) (by kernel_rfl) (by kernel_rfl) (fun _ _ _ h => h) (Or.inl ⟨by rfl, ?_⟩) hHeld ?_
      rotate_left
      · (intro w hSw; (try dsimp only at hSw); go_simp; try with_reducible rfl)
      try simp only [Act.put, List.setIfInBounds_toArray, List.set_cons_zero, List.set_cons_succ, List.getElem_toArray, List.getElem_cons_zero, List.getElem_cons_succ]
      refine wpAnyH_done (by kernel_rfl) ?_ _
      have HB4 : Hid (Below X1.heap.size X1 w4) := hHx.trans (b4.mono hHx.size)
      have HO4 : Hid (w4.ownsRow X1.heap.size 23 1 (.slice a6 (ansL (ls.drop (j + 1)) d).length q6) (ansL (ls.drop (j + 1)) d).length (cellsZ (ansL (ls.drop (j + 1)) d))) := own_over HO2.out b4
      clear hHx hS0 hSb b4 hS4 hHeld HO HO2 HB
      generalize ansL (ls.drop (j + 1)) d = AL at *
      go_wp2_with (first
        | (at_builtin; refine wpList_append_own _ rfl _ _ 62 rfl X1.heap.size 23 i0 (.int .u32 0) 1 4 Try.underlying62 hi hz0 hz1 hz2 rfl (by decide) _ _ _ rfl (HO4.out.alloc _) ⟨w4.heap.size, 0, none⟩ 1 1 [.int .u32 av] rfl rfl (cell_one_new _ _ _) (by simp [Value.oneCell']) (by unfold maxLen; omega) (by omega) (by have := HB4.out.size; simp; omega) ?_; intro v' w5 hown' hg5 hnil5; go_frame)
        | go_in)
      go_roundw
      case rel => exact ⟨j, by go_num, by omega, by rw [HST.out, List.length_append]; simpa [cellsZ] using hown', (HB4.out.alloc HB4.out.size _).grown hg5 (by have := HB4.out.size; simp; omega) (fun q hq => (HO4.out.lt q hq).1)⟩
      case measure => simp [intOf]
    | zero =>
      simp only [List.drop_zero] at HO ⊢
      have HO0 : Hid (wr.ownsRow X1.heap.size 23 1 (.slice a6 (ansL ls d).length q6) (ansL ls d).length (cellsZ (ansL ls d))) := HO.out
      have hal : (ansL ls d).length = ls.length := ansL_len ls d
      have HMo : Hid (Calls Try.prog 27 #[.slice a6 (ansL ls d).length q6] wr fun e w' => e = .returned (.int .u32 (A.most (ansL ls d))) ∧ Below wr.heap.size wr w') := by
        obtain ⟨a7, q7, ea, hns, _⟩ := ns_of_own HO0.out
        cases ea
        exact A.refMost_any a6 _ q6 (ansL ls d) wr HUu.out (by unfold maxLen; omega) hns
      clear HO hfl c0
      have HP : Hid (plN (ansL ls d) = match (ansL ls d).findIdx? (fun y => y == A.most (ansL ls d)) with | some i => ((ansL ls d).length : Int) - 1 - (i : Int) | none => -1) := rfl
      obtain ⟨L, hL⟩ : ∃ L, ansL ls d = L := ⟨_, rfl⟩
      obtain ⟨mo, hmo⟩ : ∃ mo, A.most L = mo := ⟨_, rfl⟩
      obtain ⟨pn, hpn⟩ : ∃ pn, plN L = pn := ⟨_, rfl⟩
      have HLe : Hid (ansL ls d = L ∧ A.most L = mo ∧ plN L = pn) := ⟨hL, hmo, hpn⟩
      rw [hL] at HO0 HMo HP hal
      rw [hmo] at HMo HP
      rw [hpn] at HP
      simp only [hL]
      clear hL hmo hpn
      have HAL : Hid (L.length = ls.length) := hal
      rw [hal] at HO0 HMo
      rw [hal]
      clear hal
      go_upto_region 8 with (first | (go_at_call 27; refine HMo.out.mono ?_; rintro e w5 ⟨rfl, b5⟩))
      have HB5 : Hid (Below X1.heap.size X1 w5) := HB.out.trans (b5.mono HB.out.size)
      have HO5 := own_over HO0.out b5
      rw [← HAL.out] at HO5
      obtain ⟨a8, q8, e8, hns, _⟩ := ns_of_own HO5
      rw [HAL.out] at e8 hns
      cases e8
      have HN : Hid (∀ W, Below w5.heap.size w5 W → A.Ns .u32 W a6 ls.length L ∧ W.cell? ⟨b, 0, none⟩ = some (.slice p1 ls.length c1)) := fun W hW => ⟨hns.below hW, (HF.out W (BE.out.trans ((HB5.out.trans (hW.mono HB5.out.size)).mono BE.out.size))).2⟩
      clear hns HO5 HO0 HMo b5 HB
      go_upto_region 9 with fail
      go_loopw [12] (fun vi wz => ∃ i : Nat, vi = .int .i64 i ∧ i ≤ ls.length ∧ (∀ j (hj : j < L.length), j < i → L[j] ≠ mo) ∧ Below w5.heap.size w5 wz) (fun vi _ => ls.length - (intOf vi).toNat)
      case atStart => exact ⟨0, rfl, Nat.zero_le _, fun j hj h => absurd h (by omega), Below.refl _ _⟩
      case round =>
        obtain ⟨i, rfl, hi3, hno, hbz⟩ := hrel
        obtain ⟨hnz, c0⟩ := HN.out _ hbz
        have HBz : Hid (Below X.heap.size X _) := BE.out.trans ((HB5.out.trans (hbz.mono HB5.out.size)).mono BE.out.size)
        have HBW : Hid (∀ m, Below X.heap.size X (World.drewN _ m)) := fun m => HBz.out.trans ((A.below_drewN _ m).mono HBz.out.size)
        by_cases hlt : i < ls.length
        · have hi1 : (i : Int) < (ls.length : Int) := by omega
          have hlL : i < L.length := by rw [HAL.out]; exact hlt
          obtain ⟨nb, no', rfl, hc⟩ := hnz.2 (by omega)
          have e1 := hc i hlt
          have hgd : L.getD i 0 = L[i] := by rw [List.getD_eq_getElem?_getD, List.getElem?_eq_getElem hlL]; rfl
          rw [hgd] at e1
          clear hc hnz
          by_cases hx : L[i] = mo
          · have HE : Hid (pn = (ls.length : Int) - 1 - (i : Int)) := by
              unfold Hid
              rw [HP.out, find_some_at hlL hx hno, HAL.out]
            rw [hx] at e1
            have hmm : (mo == mo) = true := by simp
            have w1 : IntKind.i64.wrap ((ls.length : Int) - 1) = (ls.length : Int) - 1 := by rw [IntKind.wrap_i64]; omega
            have w2 : IntKind.i64.wrap ((ls.length : Int) - 1 - (i : Int)) = (ls.length : Int) - 1 - (i : Int) := by rw [IntKind.wrap_i64]; omega
            clear hno hx hgd
            go_wp2_with fail
            go_quiet (fail)
            go_wp2_with fail
            go_ret2
            exact ⟨by rw [HLe.out.1, HLe.out.2.1, HLe.out.2.2, HE.out]; rfl, HBW.out _⟩
          · have hx1 : (L[i] == mo) = false := by simpa using hx
            have hno2 : ∀ j (hj : j < L.length), j < i + 1 → L[j] ≠ mo := fun j hj hji => by
              rcases Nat.lt_succ_iff_lt_or_eq.1 hji with h | h
              · exact hno j hj h
              · subst h; exact hx
            have HN2 : Hid (∀ j (hj : j < L.length), j < i + 1 → L[j] ≠ mo) := hno2
            clear hno hno2 hx hgd
            generalize L[i] = y at *
            go_wp2_with fail
            go_roundw
            case rel => exact ⟨i + 1, by go_num, hlt, HN2.out, hbz⟩
            case measure => simp [intOf]; omega
        · have hi1 : ¬ (i : Int) < (ls.length : Int) := by omega
          have HE : Hid (pn = -1) := by
            unfold Hid
            rw [HP.out, find_none_at (by rw [HAL.out]; exact hlt) hno]
          clear hno hnz
          go_wp2_with fail
          go_ret2
          exact ⟨by rw [HLe.out.1, HLe.out.2.1, HLe.out.2.2, HE.out]; rfl, HBz.out⟩

end Go.Proofs.Ytamioifoemklfaa
