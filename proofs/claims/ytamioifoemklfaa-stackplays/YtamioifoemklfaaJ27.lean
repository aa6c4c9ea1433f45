/-
  Texts of this seat, joined: StPlays.
-/
import Derived.Test.YtamioifoemklfaaJ16
import Derived.Test.YtamioifoemklfaaJ26

namespace Go.Proofs.Ytamioifoemklfaa
open Go.RowKit

theorem refRun_c : RefRunC := fun W a cap l d h1 h2 h3 => V.refRun_any a l.length cap l d W h2 h1 h3
theorem rstk_new (B : Nat) (w : World) : RStk B (w.alloc (Obj.cells #[.slice none 0 0] 37)) w.heap.size (.slice none 0 0) [] := ⟨V.blk_new w _ _, [], ⟨rfl, .inl ⟨rfl, rfl⟩⟩, fun i l hi => (by cases hi)⟩

set_option linter.unusedSimpArgs false in
set_option maxRecDepth 8000 in
set_option maxHeartbeats 4000000 in
theorem plays_walk (w : World) (v : Value) (ls : List (List V.In)) (d : V.Da) (h : FlR w v ls) (hd : d.ok) :
    Calls Try.prog 3 #[v, .agg d.cells.toArray] w fun e w' => e = .returned (.bool true) ∧ Below w.heap.size w w' := by
  obtain ⟨p1, c1, rfl, hk1, hk2⟩ : ∃ p c, v = .slice p ls.length c ∧ ls.length ≤ c ∧ c ≤ 9223372036854775807 := by obtain ⟨p, c, e, h1, h2, _⟩ := h; exact ⟨p, c, e, h1, h2⟩
  obtain ⟨d1v, d2v, d3v, d4v, d5v, d6v, d7v, d8v, hAA⟩ := nine_of d hd
  have HRu : Hid (∀ W b vc ve ks, StkV W b vc ve ks → OkS ks → Calls Try.prog 15 #[.pointer (some ⟨b, 0, none⟩), .agg d.cells.toArray] W fun e w' => e = .returned (.tuple #[.int .u32 (A.most (ansL ks d)), .int .i64 (plN (ansL ks d))]) ∧ Below W.heap.size W w') := fun W b vc ve ks h1 h2 => run_any W b vc ve ks d h1 h2 hd
  have HRr : Hid (∀ B W b vL ks, RStk B W b vL ks → OkS ks → Calls Try.prog 16 #[.pointer (some ⟨b, 0, none⟩), .agg d.cells.toArray] W fun e w' => e = .returned (.tuple #[.int .u32 (A.most (ansL ks d)), .int .i64 (plN (ansL ks d))]) ∧ Below W.heap.size W w') := fun B W b vL ks h1 h2 => rrun_of refRun_c W b vL ks d h1.blk h1.flR (by have := h2.2.1; omega) hd
  rw [hAA] at HRu HRr ⊢
  have HF : Hid (FlR w (.slice p1 ls.length c1) ls) := h
  have BE : Hid (Below w.heap.size w (w.alloc (Obj.cells #[.int .u32 d.n, d1v, d2v, d3v, d4v, d5v, d6v, d7v, d8v] 27))) := below_new w _
  have KD : Hid (V.Blk (w.alloc (Obj.cells #[.int .u32 d.n, d1v, d2v, d3v, d4v, d5v, d6v, d7v, d8v] 27)) w.heap.size 27 [.int .u32 d.n, d1v, d2v, d3v, d4v, d5v, d6v, d7v, d8v]) := V.blk_new w _ _
  clear h hAA hd
  generalize hdn : d.n = dn at *
  go_enter Try.func3, Try.ntmps3
  go_upto_region 1 with fail
  generalize (w.alloc (Obj.cells #[.int .u32 dn, d1v, d2v, d3v, d4v, d5v, d6v, d7v, d8v] 27)) = X1 at *
  have HT : Hid (∀ W, Below X1.heap.size X1 W → Below w.heap.size w W) := fun W hW => BE.out.trans (hW.mono BE.out.size)
  go_upto_region 3 with (first | (go_at_call 8; refine (awake_any _).mono ?_; rintro e w1 ⟨rfl, b1⟩) | (go_at_call 9; refine (few_any _ _ ls (HF.out.below (HT.out _ b1))).mono ?_; rintro e w2 ⟨bb, rfl, b2, -⟩))
  have HB2 : Hid (Below X1.heap.size X1 w2) := b1.trans (b2.mono b1.size)
  clear b1 b2
  cases bb with
  | false =>
    go_wp2_with fail
    go_ret
    exact ⟨rfl, HT.out _ HB2.out⟩
  | true =>
    go_upto_region 6 with fail
    have HS2 : Hid (StkV (w2.alloc (Obj.cells #[.slice none 0 0, .slice none 0 0] 34)) w2.heap.size (.slice none 0 0) (.slice none 0 0) [] ∧ Below w2.heap.size w2 (w2.alloc (Obj.cells #[.slice none 0 0, .slice none 0 0] 34))) := ⟨stk_new w2, below_new _ _⟩
    generalize (w2.alloc (Obj.cells #[.slice none 0 0, .slice none 0 0] 34)) = X2 at *
    go_upto_region 7 with fail
    have HS3 : Hid (StkV (X2.alloc (Obj.cells #[.slice none 0 0] 37)) w2.heap.size (.slice none 0 0) (.slice none 0 0) [] ∧ RStk w2.heap.size (X2.alloc (Obj.cells #[.slice none 0 0] 37)) X2.heap.size (.slice none 0 0) [] ∧ Below w2.heap.size w2 (X2.alloc (Obj.cells #[.slice none 0 0] 37)) ∧ w2.heap.size ≤ X2.heap.size) := ⟨HS2.out.1.over (below_new _ _), rstk_new _ X2, HS2.out.2.trans ((below_new _ _).mono HS2.out.2.size), HS2.out.2.size⟩
    generalize (X2.alloc (Obj.cells #[.slice none 0 0] 37)) = X4 at *
    obtain ⟨bs, hbs⟩ : ∃ bs, w2.heap.size = bs := ⟨_, rfl⟩
    obtain ⟨br, hbr⟩ : ∃ br, X2.heap.size = br := ⟨_, rfl⟩
    have HBs : Hid (w2.heap.size ≤ bs ∧ w2.heap.size ≤ br) := ⟨by rw [hbs]; exact Nat.le_refl _, by rw [← hbr]; exact HS3.out.2.2.2⟩
    have HS3' : Hid (StkV X4 bs (.slice none 0 0) (.slice none 0 0) [] ∧ RStk w2.heap.size X4 br (.slice none 0 0) [] ∧ Below w2.heap.size w2 X4) := by
      have q := HS3.out
      rw [hbr] at q
      refine ⟨?_, q.2.1, q.2.2.1⟩
      have q1 := q.1
      rw [hbs] at q1
      exact q1
    simp only [hbs, hbr]
    clear HS2 HS3 hbs hbr
    go_wp2_with fail
    go_loopw [9] (fun vi wr => ∃ (i : Nat) (vc ve vL : Value), vi = .int .i64 i ∧ i ≤ ls.length ∧ StkV wr bs vc ve (attAll [] (ls.take i)) ∧ RStk w2.heap.size wr br vL (attAll [] (ls.take i)) ∧ Below w2.heap.size w2 wr) (fun vi _ => ls.length - (intOf vi).toNat)
    case atStart => exact ⟨0, _, _, _, rfl, Nat.zero_le _, HS3'.out.1, HS3'.out.2.1, HS3'.out.2.2⟩
    case round =>
      obtain ⟨i, vc, ve, vL, rfl, hi2, hs, hr, hb⟩ := hrel
      have HOk : Hid (OkS (attAll [] (ls.take i))) := okS_all [] _ okS_nil (fun l hl => flR_ok HF.out l (List.mem_of_mem_take hl))
      have HBw : Hid (∀ W, Below w2.heap.size w2 W → Below w.heap.size w W) := fun W hW => HT.out W (HB2.out.trans (hW.mono HB2.out.size))
      by_cases hlt : i < ls.length
      · have hi1 : (i : Int) < (ls.length : Int) := by omega
        obtain ⟨fb, fo, fa, fc, rfl, e1, e2⟩ := flR_at HF.out hlt
        have HFl : Hid (∀ W, Below w2.heap.size w2 W → FlV W (.slice fa ls[i].length fc) ls[i]) := fun W hW => e2.below (HBw.out W hW)
        have HCl : Hid (∀ W, Below w2.heap.size w2 W → W.cell? ⟨fb, fo + i, none⟩ = some (.slice fa ls[i].length fc)) := fun W hW => cellK e1 (HBw.out W hW)
        have HOl : Hid (∀ x ∈ ls[i], x.ok) := flR_ok HF.out _ (List.getElem_mem hlt)
        have HST : Hid (attAll [] (ls.take (i + 1)) = attL (attAll [] (ls.take i)) ls[i]) := attAll_step hlt
        have h32 := HOk.out.2.1
        have HBZ0 : Hid (Below w2.heap.size w2 wr.drew) := hb.drew
        have HAt : Hid (Calls Try.prog 10 #[.pointer (some ⟨bs, 0, none⟩), .slice fa ls[i].length fc] wr.drew fun e Y => AttT wr.drew bs vc ve (attAll [] (ls.take i)) ls[i] e Y) := attach_any wr.drew bs vc ve _ _ _ hs.drew HOk.out (HFl.out _ HBZ0.out)
        have HSZ : Hid (StkV wr.drew bs vc ve (attAll [] (ls.take i))) := hs.drew
        have HRZ : Hid (RStk w2.heap.size wr.drew br vL (attAll [] (ls.take i))) := hr.over ((Below.refl _ _).drew)
        clear e1 e2 hs hr
        generalize ls[i] = fl at *
        generalize attAll [] (ls.take i) = acc at *
        go_upto_region 10 with fail
        have hS0 : (fun W : World => W.cell? ⟨fb, fo + i, none⟩ = some (.slice fa fl.length fc)) wr.drew := HCl.out _ HBZ0.out
        clear hb
        refine wp_region_held_drew (S := (fun W : World => W.cell? ⟨fb, fo + i, none⟩ = some (.slice fa fl.length fc))) (by kernel_rfl) (hS0) (fun hHeld => ?_)
        simp only [List.size_toArray, List.length_cons, List.length_nil, Nat.reduceAdd]
        generalize wr.drew = Z at *
        refine wpAnyH_take (i := 0) (v := ?_) rfl (by kernel_rfl) (by kernel_rfl) (by kernel_rfl) (fun _ _ _ h => h) (Or.inl ⟨by rfl, ?_⟩) hHeld ?_
        rotate_left
        · (intro w hSw; (try dsimp only at hSw); have s0 := hSw; go_simp; try with_reducible rfl)
        try simp only [Act.put, List.setIfInBounds_toArray, List.set_cons_zero, List.set_cons_succ, List.getElem_toArray, List.getElem_cons_zero, List.getElem_cons_succ]
        refine wpAnyH_take (i := 1) (v := ?_) rfl (by kernel_rfl) (by kernel_rfl) (by kernel_rfl) (fun _ _ _ h => h) (Or.inl ⟨by rfl, ?_⟩) hHeld ?_
        rotate_left
        · (intro w hSw; (try dsimp only at hSw); have s0 := hSw; go_simp; try with_reducible rfl)
        try simp only [Act.put, List.setIfInBounds_toArray, List.set_cons_zero, List.set_cons_succ, List.getElem_toArray, List.getElem_cons_zero, List.getElem_cons_succ]
        refine wpAnyH_take (i := 2) (v := ?_) rfl (by kernel_rfl) (by kernel_rfl) (by kernel_rfl) (fun _ _ _ h => h) (Or.inl ⟨by rfl, ?_⟩) hHeld ?_
        rotate_left
        · (intro w hSw; (try dsimp only at hSw); have s0 := hSw; go_simp; try with_reducible rfl)
        try simp only [Act.put, List.setIfInBounds_toArray, List.set_cons_zero, List.set_cons_succ, List.getElem_toArray, List.getElem_cons_zero, List.getElem_cons_succ]
        refine wpAnyH_take (i := 3) (v := ?_) rfl (by kernel_rfl) (by kernel_rfl) (by kernel_rfl) (fun _ _ _ h => h) (Or.inl ⟨by rfl, ?_⟩) hHeld ?_
        rotate_left
        · (intro w hSw; (try dsimp only at hSw); have s0 := hSw; go_simp; try with_reducible rfl)
        try simp only [Act.put, List.setIfInBounds_toArray, List.set_cons_zero, List.set_cons_succ, List.getElem_toArray, List.getElem_cons_zero, List.getElem_cons_succ]
        refine wpAnyH_take (i := 4) (v := ?_) rfl (by kernel_rfl) (by kernel_rfl) (by kernel_rfl) (fun _ _ _ h => h) (Or.inl ⟨by rfl, ?_⟩) hHeld ?_
        rotate_left
        · (intro w hSw; (try dsimp only at hSw); have s0 := hSw; go_simp; try with_reducible rfl)
        try simp only [Act.put, List.setIfInBounds_toArray, List.set_cons_zero, List.set_cons_succ, List.getElem_toArray, List.getElem_cons_zero, List.getElem_cons_succ]
        refine wpAnyH_take (i := 6) (v := ?_) rfl (by kernel_rfl) (by kernel_rfl) (by kernel_rfl) (fun _ _ _ h => h) (Or.inl ⟨by rfl, ?_⟩) hHeld ?_
        rotate_left
        · (intro w hSw; (try dsimp only at hSw); have s0 := hSw; go_simp; try with_reducible rfl)
        try simp only [Act.put, List.setIfInBounds_toArray, List.set_cons_zero, List.set_cons_succ, List.getElem_toArray, List.getElem_cons_zero, List.getElem_cons_succ]
        refine wpAnyH_take (i := 7) (v := ?_) rfl (by kernel_rfl) (by kernel_rfl) (by kernel_rfl) (fun _ _ _ h => h) (Or.inl ⟨by rfl, ?_⟩) hHeld ?_
        rotate_left
        · (intro w hSw; (try dsimp only at hSw); have s0 := hSw; go_simp; try with_reducible rfl)
        try simp only [Act.put, List.setIfInBounds_toArray, List.set_cons_zero, List.set_cons_succ, List.getElem_toArray, List.getElem_cons_zero, List.getElem_cons_succ]
        refine wpAnyH_take (i := 8) (v := ?_) rfl (by kernel_rfl) (by kernel_rfl) (by kernel_rfl) (fun _ _ _ h => h) (Or.inl ⟨by rfl, ?_⟩) hHeld ?_
        rotate_left
        · (intro w hSw; (try dsimp only at hSw); have s0 := hSw; go_simp; try with_reducible rfl)
        try simp only [Act.put, List.setIfInBounds_toArray, List.set_cons_zero, List.set_cons_succ, List.getElem_toArray, List.getElem_cons_zero, List.getElem_cons_succ]
        refine wpAnyH_take (i := 9) (v := ?_) rfl (by kernel_rfl) (by kernel_rfl) (by kernel_rfl) (fun _ _ _ h => h) (Or.inl ⟨by rfl, ?_⟩) hHeld ?_
        rotate_left
        · (intro w hSw; (try dsimp only at hSw); have s0 := hSw; go_simp; try with_reducible rfl)
        try simp only [Act.put, List.setIfInBounds_toArray, List.set_cons_zero, List.set_cons_succ, List.getElem_toArray, List.getElem_cons_zero, List.getElem_cons_succ]
        refine wpAnyH_take (i := 10) (v := ?_) rfl (by kernel_rfl) (by kernel_rfl) (by kernel_rfl) (fun _ _ _ h => h) (Or.inl ⟨by rfl, ?_⟩) hHeld ?_
        rotate_left
        · (intro w hSw; (try dsimp only at hSw); have s0 := hSw; go_simp; try with_reducible rfl)
        try simp only [Act.put, List.setIfInBounds_toArray, List.set_cons_zero, List.set_cons_succ, List.getElem_toArray, List.getElem_cons_zero, List.getElem_cons_succ]
        refine wpAnyH_ready (rs := [5]) (by kernel_rfl) (by simp) ?_
        refine AllReadyH.cons rfl (fun K hK => ?_) AllReadyH.nil
        go_simp
        refine (HAt.out).mono ?_
        rintro e w3 h3
        obtain ⟨rfl, g3, vc3, ve3, s3⟩ := h3.any
        have b3 : Below w2.heap.size w2 w3 := HBZ0.out.trans (grown_below g3 HBs.out.1 HBZ0.out.size)
        have hS3 : (fun W : World => W.cell? ⟨fb, fo + i, none⟩ = some (.slice fa fl.length fc)) w3 := HCl.out w3 b3
        have hR3 := HRZ.out.other HSZ.out.blk g3
        have HRt := rattach_any w2.heap.size w3 br vL _ acc fl hR3 b3.size HOk.out (HFl.out w3 b3)
        go_wp2_with fail
        refine hK.out _ _ (hS3) (fun hHeld => ?_)
        clear hK K
        try simp only [Act.put, List.setIfInBounds_toArray, List.set_cons_zero, List.set_cons_succ, List.getElem_toArray, List.getElem_cons_zero, List.getElem_cons_succ]
        refine wpAnyH_ready (rs := [11]) (by kernel_rfl) (by simp) ?_
        refine AllReadyH.cons rfl (fun K hK => ?_) AllReadyH.nil
        go_simp
        refine HRt.mono ?_
        rintro e w4 ⟨rfl, g4, vL2, R4⟩
        have b4 : Below w2.heap.size w2 w4 := b3.trans (g2_bel hR3 g4 b3.size HBs.out.2)
        have s4 := s3.ref hR3 g4
        have hS4 : (fun W : World => W.cell? ⟨fb, fo + i, none⟩ = some (.slice fa fl.length fc)) w4 := HCl.out w4 b4
        obtain ⟨aL2, cL2, eL2⟩ : ∃ a c, vL2 = .slice a (attL acc fl).length c := by obtain ⟨us, h1, _⟩ := R4.row; exact own_slice h1
        subst eL2
        have HS4 : Hid (∀ W, Below w4.heap.size w4 W → StkV W bs vc3 ve3 (attL acc fl)) := fun W hW => s4.over hW
        have HR4 : Hid (∀ W, Below w4.heap.size w4 W → RStk w2.heap.size W br (.slice aL2 (attL acc fl).length cL2) (attL acc fl)) := fun W hW => R4.over hW
        have HB4 : Hid (Below w2.heap.size w2 w4) := b4
        have hok4 := okS_attL HOk.out HOl.out
        have h32b := hok4.2.1
        have hfl4 : (attL acc fl).flatten.length + 4 * (attL acc fl).length ≤ 32768 := by have := hok4.2.2; rw [cost_flat] at this; exact this
        have HLn : Hid (∀ W, Below w4.heap.size w4 W → Calls Try.prog 12 #[.pointer (some ⟨bs, 0, none⟩)] W fun e w' => e = .returned (.int .i64 ((attL acc fl).length : Nat)) ∧ w' = W) := fun W hW => len_any W bs vc3 ve3 _ (HS4.out W hW)
        have HCo : Hid (∀ W, Below w4.heap.size w4 W → Calls Try.prog 13 #[.pointer (some ⟨bs, 0, none⟩)] W fun e w' => e = .returned (.int .i64 (costL (attL acc fl) : Nat)) ∧ Below W.heap.size W w') := fun W hW => cost_any W bs vc3 ve3 _ (HS4.out W hW) (by omega) (by omega)
        have HRc : Hid (∀ W, Below w4.heap.size w4 W → Calls Try.prog 14 #[.pointer (some ⟨br, 0, none⟩)] W fun e w' => e = .returned (.int .i64 (costL (attL acc fl) : Nat)) ∧ Below W.heap.size W w') := fun W hW => rcost_any W br _ _ (HR4.out W hW).blk (HR4.out W hW).flR (by omega) (fun k hk => by have := chk_len (hok4.1 k hk).1; omega)
        have HCl4 : Hid (∀ W, Below w4.heap.size w4 W → W.cell? ⟨fb, fo + i, none⟩ = some (.slice fa fl.length fc) ∧ W.cell? ⟨br, 0, none⟩ = some (.slice aL2 (attL acc fl).length cL2)) := fun W hW => ⟨HCl.out W (HB4.out.trans (hW.mono HB4.out.size)), (HR4.out W hW).blk.cell 0⟩
        clear s3 s4 hR3 R4 g3 g4 h3 b3 b4 hok4 hfl4 h32b
        have tne : (attE acc fl != attE acc fl) = false := by simp
        have tnl : (((attL acc fl).length : Int) != ((attL acc fl).length : Int)) = false := by simp
        have tnc : ((costL (attL acc fl) : Int) != (costL (attL acc fl) : Int)) = false := by simp
        generalize hnl : (attL acc fl).length = nl at *
        generalize costL (attL acc fl) = ncost at *
        go_wp2_with fail
        refine hK.out _ _ (hS4) (fun hHeld => ?_)
        clear hK K
        try simp only [Act.put, List.setIfInBounds_toArray, List.set_cons_zero, List.set_cons_succ, List.getElem_toArray, List.getElem_cons_zero, List.getElem_cons_succ]
        refine V.wpAnyH_switch (S2 := (fun W : World => W.cell? ⟨fb, fo + i, none⟩ = some (.slice fa fl.length fc) ∧ W.cell? ⟨br, 0, none⟩ = some (.slice aL2 nl cL2))) (fun w h => h.1) ?_
        replace hHeld : ((fun W : World => W.cell? ⟨fb, fo + i, none⟩ = some (.slice fa fl.length fc) ∧ W.cell? ⟨br, 0, none⟩ = some (.slice aL2 nl cL2))) _ := HCl4.out _ (Below.refl _ _)
        refine wpAnyH_take (i := 12) (v := ?_) rfl (by kernel_rfl) (by kernel_rfl) (by kernel_rfl) (fun _ _ _ h => h) (Or.inl ⟨by rfl, ?_⟩) hHeld ?_
        rotate_left
        · (intro w hSw; (try dsimp only at hSw); have s0 := hSw.1; have s1 := hSw.2; go_simp; try with_reducible rfl)
        try simp only [Act.put, List.setIfInBounds_toArray, List.set_cons_zero, List.set_cons_succ, List.getElem_toArray, List.getElem_cons_zero, List.getElem_cons_succ]
        refine wpAnyH_take (i := 13) (v := ?_) rfl (by kernel_rfl) (by kernel_rfl) (by kernel_rfl) (fun _ _ _ h => h) (Or.inl ⟨by rfl, ?_⟩) hHeld ?_
        rotate_left
        · (intro w hSw; (try dsimp only at hSw); have s0 := hSw.1; have s1 := hSw.2; go_simp; try with_reducible rfl)
        try simp only [Act.put, List.setIfInBounds_toArray, List.set_cons_zero, List.set_cons_succ, List.getElem_toArray, List.getElem_cons_zero, List.getElem_cons_succ]
        refine wpAnyH_take (i := 14) (v := ?_) rfl (by kernel_rfl) (by kernel_rfl) (by kernel_rfl) (fun _ _ _ h => h) (Or.inl ⟨by rfl, ?_⟩) hHeld ?_
        rotate_left
        · (intro w hSw; (try dsimp only at hSw); have s0 := hSw.1; have s1 := hSw.2; go_simp; try with_reducible rfl)
        try simp only [Act.put, List.setIfInBounds_toArray, List.set_cons_zero, List.set_cons_succ, List.getElem_toArray, List.getElem_cons_zero, List.getElem_cons_succ]
        refine wpAnyH_take (i := 16) (v := ?_) rfl (by kernel_rfl) (by kernel_rfl) (by kernel_rfl) (fun _ _ _ h => h) (Or.inl ⟨by rfl, ?_⟩) hHeld ?_
        rotate_left
        · (intro w hSw; (try dsimp only at hSw); have s0 := hSw.1; have s1 := hSw.2; go_simp; try with_reducible rfl)
        try simp only [Act.put, List.setIfInBounds_toArray, List.set_cons_zero, List.set_cons_succ, List.getElem_toArray, List.getElem_cons_zero, List.getElem_cons_succ]
        refine wpAnyH_take (i := 17) (v := ?_) rfl (by kernel_rfl) (by kernel_rfl) (by kernel_rfl) (fun _ _ _ h => h) (Or.inl ⟨by rfl, ?_⟩) hHeld ?_
        rotate_left
        · (intro w hSw; (try dsimp only at hSw); have s0 := hSw.1; have s1 := hSw.2; go_simp; try with_reducible rfl)
        try simp only [Act.put, List.setIfInBounds_toArray, List.set_cons_zero, List.set_cons_succ, List.getElem_toArray, List.getElem_cons_zero, List.getElem_cons_succ]
        refine wpAnyH_take (i := 18) (v := ?_) rfl (by kernel_rfl) (by kernel_rfl) (by kernel_rfl) (fun _ _ _ h => h) (Or.inl ⟨by rfl, ?_⟩) hHeld ?_
        rotate_left
        · (intro w hSw; (try dsimp only at hSw); have s0 := hSw.1; have s1 := hSw.2; go_simp; try with_reducible rfl)
        try simp only [Act.put, List.setIfInBounds_toArray, List.set_cons_zero, List.set_cons_succ, List.getElem_toArray, List.getElem_cons_zero, List.getElem_cons_succ]
        refine wpAnyH_take (i := 19) (v := ?_) rfl (by kernel_rfl) (by kernel_rfl) (by kernel_rfl) (fun _ _ _ h => h) (Or.inl ⟨by rfl, ?_⟩) hHeld ?_
        rotate_left
        · (intro w hSw; (try dsimp only at hSw); have s0 := hSw.1; have s1 := hSw.2; go_simp; try with_reducible rfl)
        try simp only [Act.put, List.setIfInBounds_toArray, List.set_cons_zero, List.set_cons_succ, List.getElem_toArray, List.getElem_cons_zero, List.getElem_cons_succ]
        refine wpAnyH_take (i := 20) (v := ?_) rfl (by kernel_rfl) (by kernel_rfl) (by kernel_rfl) (fun _ _ _ h => h) (Or.inl ⟨by rfl, ?_⟩) hHeld ?_
        rotate_left
        · (intro w hSw; (try dsimp only at hSw); have s0 := hSw.1; have s1 := hSw.2; go_simp; try with_reducible rfl)
        try simp only [Act.put, List.setIfInBounds_toArray, List.set_cons_zero, List.set_cons_succ, List.getElem_toArray, List.getElem_cons_zero, List.getElem_cons_succ]
        refine wpAnyH_ready (rs := [15]) (by kernel_rfl) (by simp) ?_
        refine AllReadyH.cons rfl (fun K hK => ?_) AllReadyH.nil
        go_simp
        refine (HLn.out _ (Below.refl _ _)).mono ?_
        rintro e w5 ⟨rfl, rfl⟩
        go_wp2_with fail
        refine hK.out _ _ (hHeld) (fun hHeld => ?_)
        clear hK K
        try simp only [Act.put, List.setIfInBounds_toArray, List.set_cons_zero, List.set_cons_succ, List.getElem_toArray, List.getElem_cons_zero, List.getElem_cons_succ]
        refine wpAnyH_take (i := 21) (v := ?_) rfl (by kernel_rfl) (by kernel_rfl) (by kernel_rfl) (fun _ _ _ h => h) (Or.inl ⟨by rfl, ?_⟩) hHeld ?_
        rotate_left
        · (intro w hSw; (try dsimp only at hSw); have s0 := hSw.1; have s1 := hSw.2; go_simp; try with_reducible rfl)
        try simp only [Act.put, List.setIfInBounds_toArray, List.set_cons_zero, List.set_cons_succ, List.getElem_toArray, List.getElem_cons_zero, List.getElem_cons_succ]
        refine wpAnyH_take (i := 22) (v := ?_) rfl (by kernel_rfl) (by kernel_rfl) (by kernel_rfl) (fun _ _ _ h => h) (Or.inl ⟨by rfl, ?_⟩) hHeld ?_
        rotate_left
        · (intro w hSw; (try dsimp only at hSw); have s0 := hSw.1; have s1 := hSw.2; go_simp; try with_reducible rfl)
        try simp only [Act.put, List.setIfInBounds_toArray, List.set_cons_zero, List.set_cons_succ, List.getElem_toArray, List.getElem_cons_zero, List.getElem_cons_succ]
        refine wpAnyH_take (i := 23) (v := ?_) rfl (by kernel_rfl) (by kernel_rfl) (by kernel_rfl) (fun _ _ _ h => h) (Or.inl ⟨by rfl, ?_⟩) hHeld ?_
        rotate_left
        · (intro w hSw; (try dsimp only at hSw); have s0 := hSw.1; have s1 := hSw.2; go_simp; try with_reducible rfl)
        try simp only [Act.put, List.setIfInBounds_toArray, List.set_cons_zero, List.set_cons_succ, List.getElem_toArray, List.getElem_cons_zero, List.getElem_cons_succ]
        refine wpAnyH_take (i := 24) (v := ?_) rfl (by kernel_rfl) (by kernel_rfl) (by kernel_rfl) (fun _ _ _ h => h) (Or.inl ⟨by rfl, ?_⟩) hHeld ?_
        rotate_left
        · (intro w hSw; (try dsimp only at hSw); have s0 := hSw.1; have s1 := hSw.2; go_simp; try with_reducible rfl)
        try simp only [Act.put, List.setIfInBounds_toArray, List.set_cons_zero, List.set_cons_succ, List.getElem_toArray, List.getElem_cons_zero, List.getElem_cons_succ]
        refine wpAnyH_take (i := 26) (v := ?_) rfl (by kernel_rfl) (by kernel_rfl) (by kernel_rfl) (fun _ _ _ h => h) (Or.inl ⟨by rfl, ?_⟩) hHeld ?_
        rotate_left
        · (intro w hSw; (try dsimp only at hSw); have s0 := hSw.1; have s1 := hSw.2; go_simp; try with_reducible rfl)
        try simp only [Act.put, List.setIfInBounds_toArray, List.set_cons_zero, List.set_cons_succ, List.getElem_toArray, List.getElem_cons_zero, List.getElem_cons_succ]
        refine wpAnyH_ready (rs := [25]) (by kernel_rfl) (by simp) ?_
        refine AllReadyH.cons rfl (fun K hK => ?_) AllReadyH.nil
        go_simp
        refine (HCo.out _ (Below.refl _ _)).mono ?_
        rintro e w6 ⟨rfl, b6⟩
        have hS6 := HCl4.out w6 b6
        go_wp2_with fail
        refine hK.out _ _ (hS6) (fun hHeld => ?_)
        clear hK K
        try simp only [Act.put, List.setIfInBounds_toArray, List.set_cons_zero, List.set_cons_succ, List.getElem_toArray, List.getElem_cons_zero, List.getElem_cons_succ]
        refine wpAnyH_ready (rs := [27]) (by kernel_rfl) (by simp) ?_
        refine AllReadyH.cons rfl (fun K hK => ?_) AllReadyH.nil
        go_simp
        refine (HRc.out _ b6).mono ?_
        rintro e w7 ⟨rfl, b7⟩
        have b7' := b6.trans (b7.mono b6.size)
        have hS7 := HCl4.out w7 b7'
        go_wp2_with fail
        refine hK.out _ _ (hS7) (fun hHeld => ?_)
        clear hK K
        try simp only [Act.put, List.setIfInBounds_toArray, List.set_cons_zero, List.set_cons_succ, List.getElem_toArray, List.getElem_cons_zero, List.getElem_cons_succ]
        refine wpAnyH_take (i := 28) (v := ?_) rfl (by kernel_rfl) (by kernel_rfl) (by kernel_rfl) (fun _ _ _ h => h) (Or.inl ⟨by rfl, ?_⟩) hHeld ?_
        rotate_left
        · (intro w hSw; (try dsimp only at hSw); go_simp; try with_reducible rfl)
        try simp only [Act.put, List.setIfInBounds_toArray, List.set_cons_zero, List.set_cons_succ, List.getElem_toArray, List.getElem_cons_zero, List.getElem_cons_succ]
        refine wpAnyH_take (i := 29) (v := ?_) rfl (by kernel_rfl) (by kernel_rfl) (by kernel_rfl) (fun _ _ _ h => h) (Or.inl ⟨by rfl, ?_⟩) hHeld ?_
        rotate_left
        · (intro w hSw; (try dsimp only at hSw); go_simp; try with_reducible rfl)
        try simp only [Act.put, List.setIfInBounds_toArray, List.set_cons_zero, List.set_cons_succ, List.getElem_toArray, List.getElem_cons_zero, List.getElem_cons_succ]
        refine wpAnyH_done (by kernel_rfl) ?_ _
        have HREL : Hid (∃ (j : Nat) (vc' ve' vL' : Value), Value.int .i64 ((i : Int) + 1) = .int .i64 j ∧ j ≤ ls.length ∧ StkV w7 bs vc' ve' (attAll [] (ls.take j)) ∧ RStk w2.heap.size w7 br vL' (attAll [] (ls.take j)) ∧ Below w2.heap.size w2 w7) := ⟨i + 1, vc3, ve3, .slice aL2 nl cL2, by rfl, hlt, by rw [HST.out]; exact HS4.out w7 b7', by rw [HST.out]; exact HR4.out w7 b7', HB4.out.trans (b7'.mono HB4.out.size)⟩
        clear hHeld hS0 hS3 hS4 hS6 hS7 b6 b7 b7' HS4 HR4 HB4 HLn HCo HRc HCl4 HRt HSZ HRZ HAt HCl HFl
        go_wp2_with fail
        go_roundw
        case rel => exact HREL.out
        case measure => simp [intOf]; omega
      · have hi1 : ¬ (i : Int) < (ls.length : Int) := by omega
        have HKd : Hid (∀ W, Below w2.heap.size w2 W → V.Blk W w.heap.size 27 [.int .u32 dn, d1v, d2v, d3v, d4v, d5v, d6v, d7v, d8v]) := fun W hW => KD.out.over (HB2.out.trans (hW.mono HB2.out.size))
        have HSr : Hid (∀ W, Below wr.heap.size wr W → RStk w2.heap.size W br vL (attAll [] (ls.take i))) := fun W hW => hr.over hW
        have HRu1 : Hid (Calls Try.prog 15 #[.pointer (some ⟨bs, 0, none⟩), .agg #[.int .u32 dn, d1v, d2v, d3v, d4v, d5v, d6v, d7v, d8v]] wr fun e w' => e = .returned (.tuple #[.int .u32 (A.most (ansL (attAll [] (ls.take i)) d)), .int .i64 (plN (ansL (attAll [] (ls.take i)) d))]) ∧ Below wr.heap.size wr w') := HRu.out wr bs vc ve _ hs HOk.out
        have HRr1 : Hid (∀ W, Below wr.heap.size wr W → Calls Try.prog 16 #[.pointer (some ⟨br, 0, none⟩), .agg #[.int .u32 dn, d1v, d2v, d3v, d4v, d5v, d6v, d7v, d8v]] W fun e w' => e = .returned (.tuple #[.int .u32 (A.most (ansL (attAll [] (ls.take i)) d)), .int .i64 (plN (ansL (attAll [] (ls.take i)) d))]) ∧ Below W.heap.size W w') := fun W hW => HRr.out w2.heap.size W br vL _ (HSr.out W hW) HOk.out
        have hB : Hid (Below w2.heap.size w2 wr) := hb
        have hKd := HKd.out wr hb
        have n0 := hKd.cell 0
        have n1 := hKd.cell 1
        have n2 := hKd.cell 2
        have n3 := hKd.cell 3
        have n4 := hKd.cell 4
        have n5 := hKd.cell 5
        have n6 := hKd.cell 6
        have n7 := hKd.cell 7
        have n8 := hKd.cell 8
        simp only [List.getElem?_cons_zero, List.getElem?_cons_succ] at n0 n1 n2 n3 n4 n5 n6 n7 n8
        clear hKd hs hr
        generalize A.most (ansL (attAll [] (ls.take i)) d) = mo at *
        generalize plN (ansL (attAll [] (ls.take i)) d) = pn at *
        have t1 : (mo == mo) = true := by simp
        have t2 : (pn == pn) = true := by simp
        go_upto_region 13 with (first | (go_at_call 15; refine HRu1.out.mono ?_; rintro e w5 ⟨rfl, b5⟩))
        clear n0 n1 n2 n3 n4 n5 n6 n7 n8
        have hb5 : Below w2.heap.size w2 w5 := hB.out.trans (b5.mono hB.out.size)
        have hKd := HKd.out w5 hb5
        have n0 := hKd.cell 0
        have n1 := hKd.cell 1
        have n2 := hKd.cell 2
        have n3 := hKd.cell 3
        have n4 := hKd.cell 4
        have n5 := hKd.cell 5
        have n6 := hKd.cell 6
        have n7 := hKd.cell 7
        have n8 := hKd.cell 8
        simp only [List.getElem?_cons_zero, List.getElem?_cons_succ] at n0 n1 n2 n3 n4 n5 n6 n7 n8
        clear hKd
        go_wp2_with (first | (go_at_call 16; refine (HRr1.out _ b5).mono ?_; rintro e w6 ⟨rfl, b6⟩))
        go_ret
        exact ⟨rfl, HBw.out _ (hb5.trans (b6.mono hb5.size))⟩

end Go.Proofs.Ytamioifoemklfaa
