/-
  What rules say of a call, by the document.
-/
import Derived.Test.YtpojlfenmanehaaGreatGM5
namespace Go.Proofs.YtpojlfenmanehaaGreat.M
open Go.RowKit

set_option maxRecDepth 8000 in
set_option maxHeartbeats 4000000 in
set_option linter.unusedSimpArgs false in
theorem rdecide_any (w : World) (k a : Int) (v : Value) (l : List Xr) (d : Da) (h : RlR w v l) (hs : Sml l) (hd : d.ok) :
    Calls Tryz.prog 29 #[.agg #[.int .i64 k, .int .i64 a, v], .agg d.cells.toArray] w fun e w' => e = .returned (decV (decA d k a (l.map Xr.r)) (decE k a (l.map Xr.r))) ∧ Below w.heap.size w w' := by
  obtain ⟨p1, c1, rfl⟩ : ∃ p c, v = .slice p l.length c := by obtain ⟨p, c, e, _⟩ := h; exact ⟨p, c, e⟩
  have hl : l.length ≤ 1000 := hs.1
  have hA1 : d.cells[1]? = some (.int .u32 d.a) := rfl
  have HC : Hid (∀ W, RlR W (.slice p1 l.length c1) l → Calls Tryz.prog 12 #[.agg #[.int .i64 k, .int .i64 a, .slice p1 l.length c1]] W fun e w' => e = .returned (.tuple #[.int .i64 (checkP k a (l.map Xr.r)).1, .int .i64 (checkP k a (l.map Xr.r)).2]) ∧ Below W.heap.size W w') := fun W h => rcheck_any W k a _ l h hs
  have HMe : Hid (∀ W (x : Xr), x ∈ l → StrR W x.vn x.r.names → CdR W x.vc x.r.conds → Calls Tryz.prog 53 #[.agg #[.int .i64 x.r.k, .int .i64 x.r.a, x.vn, x.vc], .agg d.cells.toArray] W fun e w' => e = .returned (.bool (meetN d x.r)) ∧ Below W.heap.size W w') := fun W x hx h1 h2 => rmeets_any W x d h1 h2 (hs.2 x hx).1 (hs.2 x hx).2.1 hd
  have HA : Hid (decA d k a (l.map Xr.r) = if (checkP k a (l.map Xr.r)).1 = 0 then (if d.a = 3221225534 then verdN d k a ((l.drop 0).map Xr.r) else (1, 0)) else (0, 0)) := by
    show decA d k a (l.map Xr.r) = _
    unfold decA
    rw [verd_eq]
    rfl
  have HE : Hid (decE k a (l.map Xr.r) = (checkP k a (l.map Xr.r)).1) := rfl
  have h3 := three_new w (Obj.cells #[.int .i64 k, .int .i64 a, .slice p1 l.length c1] 26) d.cells #[.int .i64 0, .int .i64 0]
  have h4 := three_first w d.cells #[.int .i64 0, .int .i64 0] #[.int .i64 k, .int .i64 a, .slice p1 l.length c1] 26
  obtain ⟨d1v, d2v, d3v, d4v, d5v, d6v, d7v, d8v, hAA⟩ := nine_of d hd
  rw [hAA] at HMe h3 h4 hA1 ⊢
  obtain rfl : d1v = .int .u32 d.a := by simpa using hA1
  generalize hd1 : Value.int .u32 d.a = d1v at *
  have HD1 : Hid (Value.int .u32 d.a = d1v) := hd1
  generalize hd0 : Value.int .u32 d.n = d0v at *
  clear hd0 hd1 hAA hA1
  have BE : Hid (Below w.heap.size w (((w.alloc (Obj.cells #[.int .i64 k, .int .i64 a, .slice p1 l.length c1] 26)).alloc (Obj.cells #[d0v, d1v, d2v, d3v, d4v, d5v, d6v, d7v, d8v] 41)).alloc (Obj.cells #[.int .i64 0, .int .i64 0] 23))) := h3.2.2
  have KD : Hid (Blk (((w.alloc (Obj.cells #[.int .i64 k, .int .i64 a, .slice p1 l.length c1] 26)).alloc (Obj.cells #[d0v, d1v, d2v, d3v, d4v, d5v, d6v, d7v, d8v] 41)).alloc (Obj.cells #[.int .i64 0, .int .i64 0] 23)) (w.heap.size + 1) 41 [d0v, d1v, d2v, d3v, d4v, d5v, d6v, d7v, d8v]) := h3.1
  have KA : Hid (Blk (((w.alloc (Obj.cells #[.int .i64 k, .int .i64 a, .slice p1 l.length c1] 26)).alloc (Obj.cells #[d0v, d1v, d2v, d3v, d4v, d5v, d6v, d7v, d8v] 41)).alloc (Obj.cells #[.int .i64 0, .int .i64 0] 23)) (w.heap.size + 1 + 1) 23 [.int .i64 0, .int .i64 0]) := h3.2.1
  have KR : Hid (Blk (((w.alloc (Obj.cells #[.int .i64 k, .int .i64 a, .slice p1 l.length c1] 26)).alloc (Obj.cells #[d0v, d1v, d2v, d3v, d4v, d5v, d6v, d7v, d8v] 41)).alloc (Obj.cells #[.int .i64 0, .int .i64 0] 23)) w.heap.size 26 [.int .i64 k, .int .i64 a, .slice p1 l.length c1]) := h4
  have SN : Hid (RlR (((w.alloc (Obj.cells #[.int .i64 k, .int .i64 a, .slice p1 l.length c1] 26)).alloc (Obj.cells #[d0v, d1v, d2v, d3v, d4v, d5v, d6v, d7v, d8v] 41)).alloc (Obj.cells #[.int .i64 0, .int .i64 0] 23)) (.slice p1 l.length c1) l) := h.below h3.2.2
  clear h hs hd h3 h4
  generalize decA d k a (l.map Xr.r) = RA at *
  generalize decE k a (l.map Xr.r) = RE at *
  generalize checkP k a (l.map Xr.r) = RC at *
  obtain ⟨c, cn⟩ := RC
  dsimp only at HC HA HE
  generalize d.a = ar at *
  rcases Bool.eq_false_or_eq_true (c == 0) with hq | hq
  · obtain rfl : c = 0 := by simpa using hq
    clear hq
    have HA2 : Hid (RA = if ar = 3221225534 then verdN d k a ((l.drop 0).map Xr.r) else (1, 0)) := HA.out.trans (if_pos rfl)
    clear HA
    rcases Bool.eq_false_or_eq_true (ar == 3221225534) with hr | hr
    · obtain rfl : ar = 3221225534 := by simpa using hr
      have HA3 : Hid (RA = verdN d k a ((l.drop 0).map Xr.r)) := HA2.out.trans (if_pos rfl)
      clear hr HA2
      go_enter Tryz.func29, Tryz.ntmps29
      go_wp2_with fail
      generalize (((w.alloc (Obj.cells #[.int .i64 k, .int .i64 a, .slice p1 l.length c1] 26)).alloc (Obj.cells #[d0v, d1v, d2v, d3v, d4v, d5v, d6v, d7v, d8v] 41)).alloc (Obj.cells #[.int .i64 0, .int .i64 0] 23)) = X at *
      refine (HC.out _ SN.out).mono ?_
      rintro e w1 ⟨rfl, b1⟩
      have t3 : w1.cell? ⟨w.heap.size + 1, 1, none⟩ = some (.int .u32 3221225534) := ((KD.out.over b1).cell 1).trans (by rw [← HD1.out]; rfl)
      have KD1 : Hid (Blk w1 (w.heap.size + 1) 41 [d0v, d1v, d2v, d3v, d4v, d5v, d6v, d7v, d8v]) := KD.out.over b1
      have KA1 : Hid (Blk w1 (w.heap.size + 1 + 1) 23 [.int .i64 0, .int .i64 0]) := KA.out.over b1
      have KR1 : Hid (Blk w1 w.heap.size 26 [.int .i64 k, .int .i64 a, .slice p1 l.length c1]) := KR.out.over b1
      have S1 : Hid (RlR w1 (.slice p1 l.length c1) l) := SN.out.below b1
      have B1 : Hid (Below w.heap.size w w1) := BE.out.trans (b1.mono BE.out.size)
      clear b1 BE KA KR KD SN HC
      go_wp2_with fail
      clear t3
      go_loopw [8] (fun vi wr => ∃ i : Nat, vi = .int .i64 i ∧ i ≤ l.length ∧ RA = verdN d k a ((l.drop i).map Xr.r) ∧ Below w1.heap.size w1 wr) (fun vi _ => l.length - (intOf vi).toNat)
      case atStart => exact ⟨0, rfl, Nat.zero_le _, HA3.out, Below.refl _ _⟩
      case round =>
        obtain ⟨i, rfl, hi, ht, hb⟩ := hrel
        have HT : Hid (RA = verdN d k a ((l.drop i).map Xr.r)) := ht
        have HB : Hid (Below w1.heap.size w1 wr) := hb
        have t2 : wr.cell? ⟨w.heap.size, 2, none⟩ = some (.slice p1 l.length c1) := (KR1.out.over hb).cell 2
        clear ht
        by_cases hlt : i < l.length
        · have hi1 : (i : Int) < (l.length : Int) := by omega
          obtain ⟨b1, o1, rfl, e1⟩ := rlR_at (S1.out.below hb) hlt
          have hmem : l[i] ∈ l := List.getElem_mem hlt
          have HX : Hid (∀ W, Below w1.heap.size w1 W → Calls Tryz.prog 53 #[.agg #[.int .i64 l[i].r.k, .int .i64 l[i].r.a, l[i].vn, l[i].vc], .agg #[d0v, d1v, d2v, d3v, d4v, d5v, d6v, d7v, d8v]] W fun e w' => e = .returned (.bool (meetN d l[i].r)) ∧ Below W.heap.size W w') := fun W hW => by
            obtain ⟨_, _, _, _, _, _, hr⟩ := S1.out.below hW
            exact HMe.out W l[i] hmem (hr _ hmem).1 (hr _ hmem).2
          have HLX : Hid (∀ W, Below w1.heap.size w1 W → l[i].at W b1 (o1 + i * 4)) := fun W hW => by
            obtain ⟨b5, o5, e5, e6⟩ := rlR_at (S1.out.below hW) hlt
            cases e5
            exact e6
          have HS : Hid (RA = if meetN d l[i].r = true then (l[i].r.k, l[i].r.a) else verdN d k a ((l.drop (i + 1)).map Xr.r)) := HT.out.trans (verdN_step hlt)
          have HRX : Hid (∀ W, Below w1.heap.size w1 W → W.cell? ⟨w.heap.size, 2, none⟩ = some (.slice (some ⟨b1, o1, none⟩) l.length c1)) := fun W h => (KR1.out.over h).cell 2
          have HDX : Hid (∀ W, Below w1.heap.size w1 W → W.cell? ⟨w.heap.size + 1, 0, none⟩ = some d0v ∧ W.cell? ⟨w.heap.size + 1, 1, none⟩ = some d1v ∧ W.cell? ⟨w.heap.size + 1, 2, none⟩ = some d2v ∧ W.cell? ⟨w.heap.size + 1, 3, none⟩ = some d3v ∧ W.cell? ⟨w.heap.size + 1, 4, none⟩ = some d4v ∧ W.cell? ⟨w.heap.size + 1, 5, none⟩ = some d5v ∧ W.cell? ⟨w.heap.size + 1, 6, none⟩ = some d6v ∧ W.cell? ⟨w.heap.size + 1, 7, none⟩ = some d7v ∧ W.cell? ⟨w.heap.size + 1, 8, none⟩ = some d8v) := fun W h => ⟨(KD1.out.over h).cell 0, (KD1.out.over h).cell 1, (KD1.out.over h).cell 2, (KD1.out.over h).cell 3, (KD1.out.over h).cell 4, (KD1.out.over h).cell 5, (KD1.out.over h).cell 6, (KD1.out.over h).cell 7, (KD1.out.over h).cell 8⟩
          clear hmem HT e1 hb
          generalize l[i] = x at *
          obtain ⟨⟨xk, xa, ns, cs⟩, vn, vc⟩ := x
          have HLX : Hid (∀ W, Below w1.heap.size w1 W → W.cell? ⟨b1, o1 + i * 4, none⟩ = some (.int .i64 xk) ∧ W.cell? ⟨b1, o1 + i * 4 + 1, none⟩ = some (.int .i64 xa) ∧ W.cell? ⟨b1, o1 + i * 4 + 2, none⟩ = some vn ∧ W.cell? ⟨b1, o1 + i * 4 + 3, none⟩ = some vc) := HLX.out
          dsimp only at HX HS
          generalize meetN d ⟨xk, xa, ns, cs⟩ = q at *
          go_wp2_with fail
          clear t2
          refine wp_region_held_drew (S := (fun W => Below w1.heap.size w1 W)) (by kernel_rfl) (HB.out.drew) (fun hHeld => ?_)
          simp only [List.size_toArray, List.length_cons, List.length_nil, Nat.reduceAdd]
          refine wpAnyH_take (i := 0) (v := ?_) rfl (by kernel_rfl) (by kernel_rfl) (by kernel_rfl) (fun _ _ _ h => h) (Or.inl ⟨by rfl, ?_⟩) hHeld ?_
          rotate_left
          · (intro w hSw; (try dsimp only at hSw); go_simp; try with_reducible rfl)
          try simp only [Act.put, List.setIfInBounds_toArray, List.set_cons_zero, List.set_cons_succ, List.getElem_toArray, List.getElem_cons_zero, List.getElem_cons_succ]
          refine wpAnyH_take (i := 1) (v := ?_) rfl (by kernel_rfl) (by kernel_rfl) (by kernel_rfl) (fun _ _ _ h => h) (Or.inl ⟨by rfl, ?_⟩) hHeld ?_
          rotate_left
          · (intro w hSw; (try dsimp only at hSw); have s0 := HRX.out _ hSw; go_simp; try with_reducible rfl)
          try simp only [Act.put, List.setIfInBounds_toArray, List.set_cons_zero, List.set_cons_succ, List.getElem_toArray, List.getElem_cons_zero, List.getElem_cons_succ]
          refine wpAnyH_take (i := 2) (v := ?_) rfl (by kernel_rfl) (by kernel_rfl) (by kernel_rfl) (fun _ _ _ h => h) (Or.inl ⟨by rfl, ?_⟩) hHeld ?_
          rotate_left
          · (intro w hSw; (try dsimp only at hSw); go_simp; try with_reducible rfl)
          try simp only [Act.put, List.setIfInBounds_toArray, List.set_cons_zero, List.set_cons_succ, List.getElem_toArray, List.getElem_cons_zero, List.getElem_cons_succ]
          refine wpAnyH_take (i := 3) (v := ?_) rfl (by kernel_rfl) (by kernel_rfl) (by kernel_rfl) (fun _ _ _ h => h) (Or.inl ⟨by rfl, ?_⟩) hHeld ?_
          rotate_left
          · (intro w hSw; (try dsimp only at hSw); go_simp; try with_reducible rfl)
          try simp only [Act.put, List.setIfInBounds_toArray, List.set_cons_zero, List.set_cons_succ, List.getElem_toArray, List.getElem_cons_zero, List.getElem_cons_succ]
          refine wpAnyH_take (i := 4) (v := ?_) rfl (by kernel_rfl) (by kernel_rfl) (by kernel_rfl) (fun _ _ _ h => h) (Or.inl ⟨by rfl, ?_⟩) hHeld ?_
          rotate_left
          · (intro w hSw; (try dsimp only at hSw); obtain ⟨s0, s1, s2, s3⟩ := (HLX.out _ hSw); go_simp; try with_reducible rfl)
          try simp only [Act.put, List.setIfInBounds_toArray, List.set_cons_zero, List.set_cons_succ, List.getElem_toArray, List.getElem_cons_zero, List.getElem_cons_succ]
          refine wpAnyH_take (i := 5) (v := ?_) rfl (by kernel_rfl) (by kernel_rfl) (by kernel_rfl) (fun _ _ _ h => h) (Or.inl ⟨by rfl, ?_⟩) hHeld ?_
          rotate_left
          · (intro w hSw; (try dsimp only at hSw); obtain ⟨s0, s1, s2, s3, s4, s5, s6, s7, s8⟩ := HDX.out _ hSw; go_simp; try with_reducible rfl)
          try simp only [Act.put, List.setIfInBounds_toArray, List.set_cons_zero, List.set_cons_succ, List.getElem_toArray, List.getElem_cons_zero, List.getElem_cons_succ]
          refine wpAnyH_ready (rs := [6]) (by kernel_rfl) (by simp) ?_
          refine AllReadyH.cons rfl (fun K hK => ?_) AllReadyH.nil
          go_simp
          refine (HX.out _ hHeld).mono ?_
          rintro e w5 ⟨rfl, b5⟩
          go_wp2_with fail
          refine hK.out _ _ (hHeld.trans (b5.mono hHeld.size)) (fun hHeld => ?_)
          clear hK K
          try simp only [Act.put, List.setIfInBounds_toArray, List.set_cons_zero, List.set_cons_succ, List.getElem_toArray, List.getElem_cons_zero, List.getElem_cons_succ]
          refine wpAnyH_done (by kernel_rfl) ?_ _
          have HB2 : Hid (Below w1.heap.size w1 w5) := hHeld
          clear hHeld
          cases q with
          | true =>
            have HS2 : Hid (RA = (xk, xa)) := HS.out.trans (if_pos rfl)
            have t2 := HRX.out _ HB2.out
            have l4 := HLX.out _ HB2.out
            have l0 := l4.1
            have l1 := l4.2.1
            have KA2 : Hid (Blk w5 (w.heap.size + 1 + 1) 23 [.int .i64 0, .int .i64 0]) := KA1.out.over HB2.out
            clear l4 HS
            go_wp2_with (refine at_op (.store 23 (.tmp 4) (.tmp 41)) rfl ?_; refine wpList_store_row rfl 23 (.tmp 4) (.tmp 41) rfl (w.heap.size + 1 + 1) (actV (xk, xa)) rfl rfl 23 _ KA2.out (Tryz.sizeA _) rfl (actV_one _) ?_)
            refine bodyPost_ret (v := decV (xk, xa) 0) ?_ rfl ⟨by rw [HS2.out, HE.out], ?_⟩
            · exact results_row2 Tryz.results29 _ _ (w.heap.size + 1 + 1) (actV (xk, xa)).toList _ rfl (Blk.row KA2.out _) (Tryz.sizeA _) rfl
            · exact below_setRow (B1.out.trans (HB2.out.mono B1.out.size)) (by omega) _
          | false =>
            have HS2 : Hid (RA = verdN d k a ((l.drop (i + 1)).map Xr.r)) := HS.out.trans (if_neg (by decide))
            go_wp2_with fail
            go_roundw
            case rel => exact ⟨i + 1, by go_num, hlt, HS2.out, HB2.out⟩
            case measure => simp [intOf]; omega
        · have hge : ¬ (i : Int) < (l.length : Int) := by omega
          have HS2 : Hid (RA = (k, a)) := HT.out.trans (verdN_end hlt)
          have l0 : wr.cell? ⟨w.heap.size, 0, none⟩ = some (.int .i64 k) := (KR1.out.over hb).cell 0
          have l1 : wr.cell? ⟨w.heap.size, 1, none⟩ = some (.int .i64 a) := (KR1.out.over hb).cell 1
          have KA2 : Hid (Blk wr (w.heap.size + 1 + 1) 23 [.int .i64 0, .int .i64 0]) := KA1.out.over hb
          clear hb
          go_wp2_with (refine at_op (.store 23 (.tmp 4) (.tmp 43)) rfl ?_; refine wpList_store_row rfl 23 (.tmp 4) (.tmp 43) rfl (w.heap.size + 1 + 1) (actV (k, a)) rfl rfl 23 _ KA2.out (Tryz.sizeA _) rfl (actV_one _) ?_)
          refine bodyPost_ret (v := decV (k, a) 0) ?_ rfl ⟨by rw [HS2.out, HE.out], ?_⟩
          · exact results_row2 Tryz.results29 _ _ (w.heap.size + 1 + 1) (actV (k, a)).toList _ rfl (Blk.row KA2.out _) (Tryz.sizeA _) rfl
          · exact below_setRow (B1.out.trans (HB.out.mono B1.out.size)) (by omega) _
    · have hn : ¬ ar = 3221225534 := by simpa using hr
      have hn' : (ar != 3221225534) = true := by simpa using hn
      have HA3 : Hid (RA = (1, 0)) := HA2.out.trans (if_neg hn)
      clear HA2
      go_enter Tryz.func29, Tryz.ntmps29
      go_wp2_with fail
      generalize (((w.alloc (Obj.cells #[.int .i64 k, .int .i64 a, .slice p1 l.length c1] 26)).alloc (Obj.cells #[d0v, d1v, d2v, d3v, d4v, d5v, d6v, d7v, d8v] 41)).alloc (Obj.cells #[.int .i64 0, .int .i64 0] 23)) = X at *
      refine (HC.out _ SN.out).mono ?_
      rintro e w1 ⟨rfl, b1⟩
      have t3 : w1.cell? ⟨w.heap.size + 1, 1, none⟩ = some (.int .u32 ar) := ((KD.out.over b1).cell 1).trans (by rw [← HD1.out]; rfl)
      have KA1 : Hid (Blk w1 (w.heap.size + 1 + 1) 23 [.int .i64 0, .int .i64 0]) := KA.out.over b1
      have B1 : Hid (Below w.heap.size w w1) := BE.out.trans (b1.mono BE.out.size)
      clear b1 BE KA KR KD SN HC HMe
      go_wp2_with (refine at_op (.store 23 (.tmp 4) (.tmp 21)) rfl ?_; refine wpList_store_row rfl 23 (.tmp 4) (.tmp 21) rfl (w.heap.size + 1 + 1) (actV (1, 0)) rfl rfl 23 _ KA1.out (Tryz.sizeA _) rfl (actV_one _) ?_)
      refine bodyPost_ret (v := decV (1, 0) 0) ?_ rfl ⟨by rw [HA3.out, HE.out], ?_⟩
      · exact results_row2 Tryz.results29 _ _ (w.heap.size + 1 + 1) (actV (1, 0)).toList _ rfl (Blk.row KA1.out _) (Tryz.sizeA _) rfl
      · exact below_setRow B1.out (by omega) _
  · have hn : ¬ c = 0 := by simpa using hq
    have hn' : (c != 0) = true := by simpa using hn
    have HA2 : Hid (RA = (0, 0)) := HA.out.trans (if_neg hn)
    clear HA
    go_enter Tryz.func29, Tryz.ntmps29
    go_wp2_with fail
    generalize (((w.alloc (Obj.cells #[.int .i64 k, .int .i64 a, .slice p1 l.length c1] 26)).alloc (Obj.cells #[d0v, d1v, d2v, d3v, d4v, d5v, d6v, d7v, d8v] 41)).alloc (Obj.cells #[.int .i64 0, .int .i64 0] 23)) = X at *
    refine (HC.out _ SN.out).mono ?_
    rintro e w1 ⟨rfl, b1⟩
    have KA1 : Hid (Blk w1 (w.heap.size + 1 + 1) 23 [.int .i64 0, .int .i64 0]) := KA.out.over b1
    have B1 : Hid (Below w.heap.size w w1) := BE.out.trans (b1.mono BE.out.size)
    clear b1 BE KA KR KD SN HC HMe
    go_wp2_with (refine at_op (.store 23 (.tmp 4) (.tmp 16)) rfl ?_; refine wpList_store_row rfl 23 (.tmp 4) (.tmp 16) rfl (w.heap.size + 1 + 1) (actV (0, 0)) rfl rfl 23 _ KA1.out (Tryz.sizeA _) rfl (actV_one _) ?_)
    refine bodyPost_ret (v := decV (0, 0) c) ?_ rfl ⟨by rw [HA2.out, HE.out], ?_⟩
    · exact results_row2 Tryz.results29 _ _ (w.heap.size + 1 + 1) (actV (0, 0)).toList _ rfl (Blk.row KA1.out _) (Tryz.sizeA _) rfl
    · exact below_setRow B1.out (by omega) _

end Go.Proofs.YtpojlfenmanehaaGreat.M

