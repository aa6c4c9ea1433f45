/-
  The document's Spoil.
-/
import Derived.Test.YtljceoojbppaeaaRfDrop
namespace Go.Proofs.Ytljceoojbppaeaa
open Go.RowKit D

/-- a clone of which a bit is turned. -/
theorem Cln.turn {B : Nat} {w w5 : World} {v5 : Value} {f : List Int} (h : Cln B w w5 v5 f) (hf : okF f) (bit : Int) : ∃ g5 c5, v5 = .slice (some ⟨g5, 0, none⟩) f.length c5 ∧ w.heap.size ≤ g5 ∧ (∀ i, i < f.length → w5.cell? ⟨g5, i, none⟩ = some (.int .u8 (f.getD i 0))) ∧ (∀ i, i < f.length → w5.frozen? ⟨g5, i, none⟩ = false) ∧
    ∀ (q : Nat), bitAt f bit / 8 = q → ∀ k, bitAt f bit % 8 = k → ∀ y, bits BinOp.xor IntKind.u8 (f.getD q 0) y = turnB (f.getD q 0) k →
      PcT B (w5.setCell ⟨g5, q, none⟩ (.int .u8 (bits BinOp.xor IntKind.u8 (f.getD q 0) y))).drew (.slice (some ⟨g5, 0, none⟩) f.length c5) (turnF f bit) ∧ Below w.heap.size w (w5.setCell ⟨g5, q, none⟩ (.int .u8 (bits BinOp.xor IntKind.u8 (f.getD q 0) y))).drew := by
  have hl := hf.2.1
  rcases h.own.2 with ⟨_, hn⟩ | ⟨g5, c5, cur, hv, hg, hh, _⟩
  · omega
  have hcell : ∀ i, i < f.length → w5.cell? ⟨g5, i, none⟩ = some (.int .u8 (f.getD i 0)) := fun i hi => by
    have := h.own.cells (g := g5) (by rw [hv]; rfl) i (.int .u8 (f.getD i 0)) (by simp [cellsB, List.getElem?_eq_getElem hi])
    rwa [Addr.add_lit, Nat.zero_add] at this
  refine ⟨g5, c5, hv, hg, hcell, fun i hi => by simp [World.frozen?, hh], fun q hq k hk y hy => ⟨⟨⟨_, c5, by rw [turnF_len], ?_, fun e => by cases e⟩, fun _ => ⟨g5, rfl, .inr ?_⟩⟩, (h.bel.setCell hg _).drew⟩⟩
  · refine ⟨rfl, (turnF_ok hf bit).1, fun _ => ⟨g5, 0, rfl, fun i hi => ?_⟩⟩
    rw [turnF_len] at hi
    have hqf := byteAt_lt hf.2.1 bit
    rw [hq] at hqf
    unfold turnF
    rw [hq, hk, hy, Nat.zero_add]
    show (w5.setCell _ _).cell? _ = _
    by_cases e : i = q
    · subst e
      rw [World.cell?_setCell_same' _ _ _ (by rw [hcell i hi]; rfl)]
      rw [List.getD_eq_getElem?_getD (l := f.set i _), List.getElem?_set_self hi]
      rfl
    · rw [World.cell?_setCell_other _ _ _ _ (by intro h; apply e; injection h with _ h2; exact h2.symm), hcell i hi, List.getD_eq_getElem?_getD, List.getD_eq_getElem?_getD, List.getElem?_set_ne (Ne.symm e)]
  · exact ⟨_, _, heap_setCell_same w5 g5 q cur 5 _ hh⟩
/-- one of both rows, of which a slice is another one. -/
theorem RfV.selK {t : TypeId} {B c : Nat} {w : World} {s : Lk} (h : RfV t B w c s) (hB : B ≤ w.heap.size) (_h5 : t ≠ 5) (h37 : t ≠ 37) (up : Bool) : ∃ v, w.cell? ⟨c, ix up, none⟩ = some v ∧ RowS B w v (s.sel up) ∧
    ∀ (w1 : World) (l : List (List Int)), ApW B w w1 v v l → RfV t B w1 c (s.put up l) ∧ Sk [37, t] B w w1 := by
  obtain ⟨hBc, v, u, hb, hp⟩ := h
  have nt : t ∉ [37] := by simp; exact h37
  cases up with
  | true =>
    refine ⟨v, hb.cell 0, hp.r0, fun w1 l ha => ?_⟩
    have hs := ha.sk hp.r0 hB
    exact ⟨⟨hBc, v, u, hs.blk hb nt, ha.row, hp.r1.sk hs (by simp) fun k e => ha.block k (hp.r1.blk k e).2.1 fun e2 => hp.ap k e2 e, hp.ap⟩, hs.mono (by simp)⟩
  | false =>
    refine ⟨u, hb.cell 1, hp.r1, fun w1 l ha => ?_⟩
    have hs := ha.sk hp.r1 hB
    exact ⟨⟨hBc, v, u, hs.blk hb nt, hp.r0.sk hs (by simp) fun k e => ha.block k (hp.r0.blk k e).2.1 fun e2 => hp.ap k e e2, ha.row, hp.ap⟩, hs.mono (by simp)⟩

set_option maxRecDepth 8000 in
set_option maxHeartbeats 16000000 in
theorem refSpoil_any (B c : Nat) (s : Lk) (n bit : Int) (w : World) (h : RfV 35 B w c s) (ho : s.ok) (hB : B ≤ w.heap.size) (hn : n < 9223372036854775808) :
    Calls Try.prog 23 #[.pointer (some ⟨c, 0, none⟩), .int .i64 n, .int .i64 bit] w fun e w' => e = .returned (.bool (s.has n)) ∧ RfV 35 B w' c (s.spoil n bit) ∧ Sk [35, 37] B w w' := by
  cases hq : s.has n with
  | false =>
    have hw0 := where_no h ho hn hq
    have HF : Hid (RfV 35 B w c s ∧ B ≤ w.heap.size) := ⟨h, hB⟩
    have HE : Hid (s.spoil n bit = s) := by unfold Hid Lk.spoil; rw [hq, if_neg (by decide)]
    clear h hq hB
    rw [HE.out]
    go_enter Try.func23, Try.ntmps23
    go_wp2_with (go_at_call 33; refine hw0.mono ?_; rintro e w1 ⟨rfl, hb1⟩)
    go_ret
    exact ⟨rfl, HF.out.1.over HF.out.2 hb1, sk_below hb1 HF.out.2⟩
  | true =>
    rw [← hq]
    cases hup : s.way n with
    | true =>
      obtain ⟨j, hj, hjl, hw0⟩ := where_to h ho hn hq (up := true) hup
      have hk64 : ((s.sel true).length : Int) ≤ 64 := by have := (Lk.ok_sel ho true).1; omega
      have HNl : Hid (j < (s.sel true).length ∧ (s.sel true).length ≤ 100) := ⟨hjl, by omega⟩
      have HF : Hid (RfV 35 B w c s) := h
      have HBw : Hid (B ≤ w.heap.size) := hB
      have HJ : Hid (s.at n = (j : Int) ∧ s.way n = true ∧ s.has n = true ∧ j < (s.sel true).length) := ⟨hj, hup, hq, hjl⟩
      clear h hj hup hq hB hjl
      have HFm : Hid (s.frame n = (s.sel true).getD j []) := by
        unfold Hid Lk.frame
        rw [HJ.out.2.1, HJ.out.1]
        rfl
      have HE : Hid (s.spoil n bit = s.put true ((s.sel true).set j (turnF (s.frame n) bit))) := by
        unfold Hid Lk.spoil
        rw [HJ.out.2.2.1, if_pos rfl, HJ.out.2.1, HJ.out.1, Int.toNat_natCast]
      have HOk : Hid (okF (s.frame n)) := Lk.ok_frame ho HJ.out.2.2.1
      rw [HJ.out.2.2.1]
      generalize s.spoil n bit = s' at *
      go_enter Try.func23, Try.ntmps23
      go_upto_region 2 with (go_at_call 33; refine hw0.mono ?_; rintro e w1 ⟨rfl, hb1⟩)
      have HF1 : Hid (RfV 35 B w1 c s) := HF.out.over HBw.out hb1
      have HB1 : Hid (B ≤ w1.heap.size) := Nat.le_trans HBw.out hb1.size
      have HBw1 : Hid (Below w.heap.size w w1) := hb1
      obtain ⟨vx, xx, rx, _⟩ := HF1.out.selK HB1.out (by decide) (by decide) true
      change w1.cell? ⟨c, 0, none⟩ = some vx at xx
      obtain ⟨va, vc, hvx, _⟩ := rx.slice
      subst hvx
      obtain ⟨g1, a1, d1, e1, x1, w01, w02, y1, w03⟩ := rx.at HJ.out.2.2.2
      subst e1
      have e2 : (s.sel true)[j]'HJ.out.2.2.2 = s.frame n := by
        rw [HFm.out, List.getD_eq_getElem?_getD, List.getElem?_eq_getElem HJ.out.2.2.2]
        rfl
      rw [e2] at x1 y1
      have HX1 : Hid (w1.cell? ⟨c, 0, none⟩ = some (.slice (some ⟨g1, 0, none⟩) (s.sel true).length vc)) := xx
      clear rx hb1 w01 w02 w03 e2
      generalize s.frame n = f at *
      generalize hn1 : f.length = n1 at *
      have HFr : Hid (Bs w1 a1 n1 f ∧ 0 < n1 ∧ n1 ≤ 1024) := ⟨y1, by have := HOk.out.2.1; omega, by have := HOk.out.2.2; omega⟩
      have HN1 : Hid (f.length = n1) := hn1
      clear y1 hn1
      have hjk : j < (s.sel true).length := HJ.out.2.2.2
      have hji : (j : Int) < ((s.sel true).length : Int) := by omega
      have hlen1 : (n1 : Int) ≤ 1024 := by have := HFr.out.2.2; omega
      have hlen0 : (0 : Int) < (n1 : Int) := by have := HFr.out.2.1; omega
      have hz : (8 * (n1 : Int) == 0) = false := beq_eq_false_iff_ne.2 (by omega)
      have hjlt : bitAt f bit < 8 * n1 := by have := bitAt_lt HOk.out.2.1 bit; rw [HN1.out] at this; exact this
      rcases Int.lt_or_le bit 0 with hb | hb
      · have hj0 : bitAt f bit = 0 := by unfold bitAt; rw [show max bit 0 = 0 by omega]; exact Nat.zero_mod _
        clear hw0
        go_upto_region 5 with fail
        have xx2 := cellK xx (alloc_below w1 (.cells #[] 5))
        have x12 := cellK x1 (alloc_below w1 (.cells #[] 5))
        go_upto_region 6 with (refine clone_l B rfl (.tmp 35) (.tmp 44) rfl _ rfl rfl a1 n1 d1 f rfl HFr.out.1 HFr.out.2.1 HFr.out.2.2 ?_; intro v5 w5 hc5)
        obtain ⟨g5, c5, hv5, hg5, hcell, hfz, hturn⟩ := hc5.turn HOk.out bit
        rw [HN1.out] at hv5 hturn
        subst hv5
        clear xx x1 xx2 x12
        have hc0 := hcell 0 (by rw [HN1.out]; omega)
        have hf0 := hfz 0 (by rw [HN1.out]; omega)
        have HTn : Hid (∀ y : Int, y = ((2 ^ 0 : Nat) : Int) → PcT B (w5.setCell ⟨g5, 0, none⟩ (.int .u8 (bits BinOp.xor IntKind.u8 (f.getD 0 0) y))).drew (.slice (some ⟨g5, 0, none⟩) n1 c5) (turnF f bit) ∧ Below w1.heap.size w1 (w5.setCell ⟨g5, 0, none⟩ (.int .u8 (bits BinOp.xor IntKind.u8 (f.getD 0 0) y))).drew) := fun y hy => hturn 0 (by rw [hj0]) 0 (by rw [hj0]) y (turn_bits _ _ _ (byt_get HOk.out.1 0) (by decide) hy)
        clear hcell hfz hturn hc5 hjlt
        generalize hx : f.getD 0 0 = x at *
        go_region
        have HT6 : Hid (PcT B (w5.setCell ⟨g5, 0, none⟩ (.int .u8 (bits BinOp.xor IntKind.u8 x 1))).drew (.slice (some ⟨g5, 0, none⟩) n1 c5) (turnF f bit) ∧ Below w1.heap.size w1 (w5.setCell ⟨g5, 0, none⟩ (.int .u8 (bits BinOp.xor IntKind.u8 x 1))).drew) := HTn.out _ rfl
        generalize (w5.setCell ⟨g5, 0, none⟩ (.int .u8 (bits BinOp.xor IntKind.u8 x 1))).drew = w6 at *
        have HF6 : Hid (RfV 35 B w6 c s) := HF1.out.over HB1.out HT6.out.2
        have HB6 : Hid (B ≤ w6.heap.size) := Nat.le_trans HB1.out HT6.out.2.size
        obtain ⟨vy, xy, ry, hkeep⟩ := HF6.out.selK HB6.out (by decide) (by decide) true
        change w6.cell? ⟨c, 0, none⟩ = some vy at xy
        have hvy : vy = .slice (some ⟨g1, 0, none⟩) (s.sel true).length vc := by
          have h1 := cellK HX1.out HT6.out.2
          rw [xy] at h1
          injection h1
        subst hvy
        obtain ⟨g2, a2, d2, e2, x2, w07, f2, w08, w09⟩ := ry.at HJ.out.2.2.2
        clear w07 w08 w09
        injection e2 with e3
        injection e3 with e4
        subst e4
        have HSet := ry.set HJ.out.2.2.2 HT6.out.1 g1 rfl
        obtain ⟨hR, hS⟩ := hkeep _ _ HSet
        have HRS : Hid (RfV 35 B (w6.setCell ⟨g1, j, none⟩ (.slice (some ⟨g5, 0, none⟩) n1 c5)) c (s.put true ((s.sel true).set j (turnF f bit))) ∧ Sk [37, 35] B w6 (w6.setCell ⟨g1, j, none⟩ (.slice (some ⟨g5, 0, none⟩) n1 c5))) := ⟨hR, hS⟩
        have HSk1 : Hid (Sk [37, 35] B w w6) := sk_below (HBw1.out.trans (HT6.out.2.mono HBw1.out.size)) HBw.out
        clear hR hS hkeep HSet ry HT6 HTn
        go_wp2
        go_ret
        refine ⟨rfl, ?_, Sk.mono (M := [35, 37]) (HSk1.out.trans HRS.out.2) (by simp)⟩
        rw [HE.out]
        exact HRS.out.1
      · obtain ⟨m, rfl⟩ : ∃ m : Nat, bit = (m : Int) := ⟨bit.toNat, by omega⟩
        have hm : (m : Int) % (8 * (n1 : Int)) = (bitAt f m : Int) := by unfold bitAt; rw [show max (m : Int) 0 = (m : Int) by omega, HN1.out]; simp
        clear hw0
        go_upto_region 5 with fail
        have xx2 := cellK xx (alloc_below w1 (.cells #[] 5))
        have x12 := cellK x1 (alloc_below w1 (.cells #[] 5))
        rw [hm]
        go_upto_region 6 with (refine clone_l B rfl (.tmp 35) (.tmp 44) rfl _ rfl rfl a1 n1 d1 f rfl HFr.out.1 HFr.out.2.1 HFr.out.2.2 ?_; intro v5 w5 hc5)
        obtain ⟨g5, c5, hv5, hg5, hcell, hfz, hturn⟩ := hc5.turn HOk.out m
        rw [HN1.out] at hv5 hturn
        subst hv5
        clear xx x1 xx2 x12
        obtain ⟨q, hq⟩ : ∃ q, q = bitAt f m / 8 := ⟨_, rfl⟩
        obtain ⟨r, hr⟩ : ∃ r, r = bitAt f m % 8 := ⟨_, rfl⟩
        have hr8 : r < 8 := by omega
        have hqlt : q < n1 := by omega
        have hc0 := hcell q (by rw [HN1.out]; exact hqlt)
        have hf0 := hfz q (by rw [HN1.out]; exact hqlt)
        have HTn : Hid (∀ y : Int, y = ((2 ^ r : Nat) : Int) → PcT B (w5.setCell ⟨g5, q, none⟩ (.int .u8 (bits BinOp.xor IntKind.u8 (f.getD q 0) y))).drew (.slice (some ⟨g5, 0, none⟩) n1 c5) (turnF f m) ∧ Below w1.heap.size w1 (w5.setCell ⟨g5, q, none⟩ (.int .u8 (bits BinOp.xor IntKind.u8 (f.getD q 0) y))).drew) := fun y hy => hturn q hq.symm r hr.symm y (turn_bits _ _ _ (byt_get HOk.out.1 q) hr8 hy)
        clear hcell hfz hturn hc5
        generalize hx : f.getD q 0 = x at *
        have hq1 : ((bitAt f m : Nat) : Int) / 8 = (q : Int) := by omega
        have hr1 : ((bitAt f m : Nat) : Int) % 8 = (r : Int) := by omega
        clear hm
        generalize turnF f m = tf at *
        generalize bitAt f m = jb at *
        have hjb0 : (0 : Int) ≤ (jb : Int) := by omega
        have hqi : (q : Int) < (n1 : Int) := by omega
        clear hq hr hjlt
        have HR8 : Hid (r < 8) := hr8
        rcases (show r = 0 ∨ r = 1 ∨ r = 2 ∨ r = 3 ∨ r = 4 ∨ r = 5 ∨ r = 6 ∨ r = 7 by omega) with rfl | rfl | rfl | rfl | rfl | rfl | rfl | rfl
        · go_region
          have HT6 : Hid (PcT B (w5.setCell ⟨g5, q, none⟩ (.int .u8 (bits BinOp.xor IntKind.u8 x 1))).drew (.slice (some ⟨g5, 0, none⟩) n1 c5) (tf) ∧ Below w1.heap.size w1 (w5.setCell ⟨g5, q, none⟩ (.int .u8 (bits BinOp.xor IntKind.u8 x 1))).drew) := HTn.out _ rfl
          generalize (w5.setCell ⟨g5, q, none⟩ (.int .u8 (bits BinOp.xor IntKind.u8 x 1))).drew = w6 at *
          have HF6 : Hid (RfV 35 B w6 c s) := HF1.out.over HB1.out HT6.out.2
          have HB6 : Hid (B ≤ w6.heap.size) := Nat.le_trans HB1.out HT6.out.2.size
          obtain ⟨vy, xy, ry, hkeep⟩ := HF6.out.selK HB6.out (by decide) (by decide) true
          change w6.cell? ⟨c, 0, none⟩ = some vy at xy
          have hvy : vy = .slice (some ⟨g1, 0, none⟩) (s.sel true).length vc := by
            have h1 := cellK HX1.out HT6.out.2
            rw [xy] at h1
            injection h1
          subst hvy
          obtain ⟨g2, a2, d2, e2, x2, w07, f2, w08, w09⟩ := ry.at HJ.out.2.2.2
          clear w07 w08 w09
          injection e2 with e3
          injection e3 with e4
          subst e4
          have HSet := ry.set HJ.out.2.2.2 HT6.out.1 g1 rfl
          obtain ⟨hR, hS⟩ := hkeep _ _ HSet
          have HRS : Hid (RfV 35 B (w6.setCell ⟨g1, j, none⟩ (.slice (some ⟨g5, 0, none⟩) n1 c5)) c (s.put true ((s.sel true).set j (tf))) ∧ Sk [37, 35] B w6 (w6.setCell ⟨g1, j, none⟩ (.slice (some ⟨g5, 0, none⟩) n1 c5))) := ⟨hR, hS⟩
          have HSk1 : Hid (Sk [37, 35] B w w6) := sk_below (HBw1.out.trans (HT6.out.2.mono HBw1.out.size)) HBw.out
          clear hR hS hkeep HSet ry HT6 HTn
          go_wp2
          go_ret
          refine ⟨rfl, ?_, Sk.mono (M := [35, 37]) (HSk1.out.trans HRS.out.2) (by simp)⟩
          rw [HE.out]
          exact HRS.out.1
        · go_region
          have HT6 : Hid (PcT B (w5.setCell ⟨g5, q, none⟩ (.int .u8 (bits BinOp.xor IntKind.u8 x 2))).drew (.slice (some ⟨g5, 0, none⟩) n1 c5) (tf) ∧ Below w1.heap.size w1 (w5.setCell ⟨g5, q, none⟩ (.int .u8 (bits BinOp.xor IntKind.u8 x 2))).drew) := HTn.out _ rfl
          generalize (w5.setCell ⟨g5, q, none⟩ (.int .u8 (bits BinOp.xor IntKind.u8 x 2))).drew = w6 at *
          have HF6 : Hid (RfV 35 B w6 c s) := HF1.out.over HB1.out HT6.out.2
          have HB6 : Hid (B ≤ w6.heap.size) := Nat.le_trans HB1.out HT6.out.2.size
          obtain ⟨vy, xy, ry, hkeep⟩ := HF6.out.selK HB6.out (by decide) (by decide) true
          change w6.cell? ⟨c, 0, none⟩ = some vy at xy
          have hvy : vy = .slice (some ⟨g1, 0, none⟩) (s.sel true).length vc := by
            have h1 := cellK HX1.out HT6.out.2
            rw [xy] at h1
            injection h1
          subst hvy
          obtain ⟨g2, a2, d2, e2, x2, w07, f2, w08, w09⟩ := ry.at HJ.out.2.2.2
          clear w07 w08 w09
          injection e2 with e3
          injection e3 with e4
          subst e4
          have HSet := ry.set HJ.out.2.2.2 HT6.out.1 g1 rfl
          obtain ⟨hR, hS⟩ := hkeep _ _ HSet
          have HRS : Hid (RfV 35 B (w6.setCell ⟨g1, j, none⟩ (.slice (some ⟨g5, 0, none⟩) n1 c5)) c (s.put true ((s.sel true).set j (tf))) ∧ Sk [37, 35] B w6 (w6.setCell ⟨g1, j, none⟩ (.slice (some ⟨g5, 0, none⟩) n1 c5))) := ⟨hR, hS⟩
          have HSk1 : Hid (Sk [37, 35] B w w6) := sk_below (HBw1.out.trans (HT6.out.2.mono HBw1.out.size)) HBw.out
          clear hR hS hkeep HSet ry HT6 HTn
          go_wp2
          go_ret
          refine ⟨rfl, ?_, Sk.mono (M := [35, 37]) (HSk1.out.trans HRS.out.2) (by simp)⟩
          rw [HE.out]
          exact HRS.out.1
        · go_region
          have HT6 : Hid (PcT B (w5.setCell ⟨g5, q, none⟩ (.int .u8 (bits BinOp.xor IntKind.u8 x 4))).drew (.slice (some ⟨g5, 0, none⟩) n1 c5) (tf) ∧ Below w1.heap.size w1 (w5.setCell ⟨g5, q, none⟩ (.int .u8 (bits BinOp.xor IntKind.u8 x 4))).drew) := HTn.out _ rfl
          generalize (w5.setCell ⟨g5, q, none⟩ (.int .u8 (bits BinOp.xor IntKind.u8 x 4))).drew = w6 at *
          have HF6 : Hid (RfV 35 B w6 c s) := HF1.out.over HB1.out HT6.out.2
          have HB6 : Hid (B ≤ w6.heap.size) := Nat.le_trans HB1.out HT6.out.2.size
          obtain ⟨vy, xy, ry, hkeep⟩ := HF6.out.selK HB6.out (by decide) (by decide) true
          change w6.cell? ⟨c, 0, none⟩ = some vy at xy
          have hvy : vy = .slice (some ⟨g1, 0, none⟩) (s.sel true).length vc := by
            have h1 := cellK HX1.out HT6.out.2
            rw [xy] at h1
            injection h1
          subst hvy
          obtain ⟨g2, a2, d2, e2, x2, w07, f2, w08, w09⟩ := ry.at HJ.out.2.2.2
          clear w07 w08 w09
          injection e2 with e3
          injection e3 with e4
          subst e4
          have HSet := ry.set HJ.out.2.2.2 HT6.out.1 g1 rfl
          obtain ⟨hR, hS⟩ := hkeep _ _ HSet
          have HRS : Hid (RfV 35 B (w6.setCell ⟨g1, j, none⟩ (.slice (some ⟨g5, 0, none⟩) n1 c5)) c (s.put true ((s.sel true).set j (tf))) ∧ Sk [37, 35] B w6 (w6.setCell ⟨g1, j, none⟩ (.slice (some ⟨g5, 0, none⟩) n1 c5))) := ⟨hR, hS⟩
          have HSk1 : Hid (Sk [37, 35] B w w6) := sk_below (HBw1.out.trans (HT6.out.2.mono HBw1.out.size)) HBw.out
          clear hR hS hkeep HSet ry HT6 HTn
          go_wp2
          go_ret
          refine ⟨rfl, ?_, Sk.mono (M := [35, 37]) (HSk1.out.trans HRS.out.2) (by simp)⟩
          rw [HE.out]
          exact HRS.out.1
        · go_region
          have HT6 : Hid (PcT B (w5.setCell ⟨g5, q, none⟩ (.int .u8 (bits BinOp.xor IntKind.u8 x 8))).drew (.slice (some ⟨g5, 0, none⟩) n1 c5) (tf) ∧ Below w1.heap.size w1 (w5.setCell ⟨g5, q, none⟩ (.int .u8 (bits BinOp.xor IntKind.u8 x 8))).drew) := HTn.out _ rfl
          generalize (w5.setCell ⟨g5, q, none⟩ (.int .u8 (bits BinOp.xor IntKind.u8 x 8))).drew = w6 at *
          have HF6 : Hid (RfV 35 B w6 c s) := HF1.out.over HB1.out HT6.out.2
          have HB6 : Hid (B ≤ w6.heap.size) := Nat.le_trans HB1.out HT6.out.2.size
          obtain ⟨vy, xy, ry, hkeep⟩ := HF6.out.selK HB6.out (by decide) (by decide) true
          change w6.cell? ⟨c, 0, none⟩ = some vy at xy
          have hvy : vy = .slice (some ⟨g1, 0, none⟩) (s.sel true).length vc := by
            have h1 := cellK HX1.out HT6.out.2
            rw [xy] at h1
            injection h1
          subst hvy
          obtain ⟨g2, a2, d2, e2, x2, w07, f2, w08, w09⟩ := ry.at HJ.out.2.2.2
          clear w07 w08 w09
          injection e2 with e3
          injection e3 with e4
          subst e4
          have HSet := ry.set HJ.out.2.2.2 HT6.out.1 g1 rfl
          obtain ⟨hR, hS⟩ := hkeep _ _ HSet
          have HRS : Hid (RfV 35 B (w6.setCell ⟨g1, j, none⟩ (.slice (some ⟨g5, 0, none⟩) n1 c5)) c (s.put true ((s.sel true).set j (tf))) ∧ Sk [37, 35] B w6 (w6.setCell ⟨g1, j, none⟩ (.slice (some ⟨g5, 0, none⟩) n1 c5))) := ⟨hR, hS⟩
          have HSk1 : Hid (Sk [37, 35] B w w6) := sk_below (HBw1.out.trans (HT6.out.2.mono HBw1.out.size)) HBw.out
          clear hR hS hkeep HSet ry HT6 HTn
          go_wp2
          go_ret
          refine ⟨rfl, ?_, Sk.mono (M := [35, 37]) (HSk1.out.trans HRS.out.2) (by simp)⟩
          rw [HE.out]
          exact HRS.out.1
        · go_region
          have HT6 : Hid (PcT B (w5.setCell ⟨g5, q, none⟩ (.int .u8 (bits BinOp.xor IntKind.u8 x 16))).drew (.slice (some ⟨g5, 0, none⟩) n1 c5) (tf) ∧ Below w1.heap.size w1 (w5.setCell ⟨g5, q, none⟩ (.int .u8 (bits BinOp.xor IntKind.u8 x 16))).drew) := HTn.out _ rfl
          generalize (w5.setCell ⟨g5, q, none⟩ (.int .u8 (bits BinOp.xor IntKind.u8 x 16))).drew = w6 at *
          have HF6 : Hid (RfV 35 B w6 c s) := HF1.out.over HB1.out HT6.out.2
          have HB6 : Hid (B ≤ w6.heap.size) := Nat.le_trans HB1.out HT6.out.2.size
          obtain ⟨vy, xy, ry, hkeep⟩ := HF6.out.selK HB6.out (by decide) (by decide) true
          change w6.cell? ⟨c, 0, none⟩ = some vy at xy
          have hvy : vy = .slice (some ⟨g1, 0, none⟩) (s.sel true).length vc := by
            have h1 := cellK HX1.out HT6.out.2
            rw [xy] at h1
            injection h1
          subst hvy
          obtain ⟨g2, a2, d2, e2, x2, w07, f2, w08, w09⟩ := ry.at HJ.out.2.2.2
          clear w07 w08 w09
          injection e2 with e3
          injection e3 with e4
          subst e4
          have HSet := ry.set HJ.out.2.2.2 HT6.out.1 g1 rfl
          obtain ⟨hR, hS⟩ := hkeep _ _ HSet
          have HRS : Hid (RfV 35 B (w6.setCell ⟨g1, j, none⟩ (.slice (some ⟨g5, 0, none⟩) n1 c5)) c (s.put true ((s.sel true).set j (tf))) ∧ Sk [37, 35] B w6 (w6.setCell ⟨g1, j, none⟩ (.slice (some ⟨g5, 0, none⟩) n1 c5))) := ⟨hR, hS⟩
          have HSk1 : Hid (Sk [37, 35] B w w6) := sk_below (HBw1.out.trans (HT6.out.2.mono HBw1.out.size)) HBw.out
          clear hR hS hkeep HSet ry HT6 HTn
          go_wp2
          go_ret
          refine ⟨rfl, ?_, Sk.mono (M := [35, 37]) (HSk1.out.trans HRS.out.2) (by simp)⟩
          rw [HE.out]
          exact HRS.out.1
        · go_region
          have HT6 : Hid (PcT B (w5.setCell ⟨g5, q, none⟩ (.int .u8 (bits BinOp.xor IntKind.u8 x 32))).drew (.slice (some ⟨g5, 0, none⟩) n1 c5) (tf) ∧ Below w1.heap.size w1 (w5.setCell ⟨g5, q, none⟩ (.int .u8 (bits BinOp.xor IntKind.u8 x 32))).drew) := HTn.out _ rfl
          generalize (w5.setCell ⟨g5, q, none⟩ (.int .u8 (bits BinOp.xor IntKind.u8 x 32))).drew = w6 at *
          have HF6 : Hid (RfV 35 B w6 c s) := HF1.out.over HB1.out HT6.out.2
          have HB6 : Hid (B ≤ w6.heap.size) := Nat.le_trans HB1.out HT6.out.2.size
          obtain ⟨vy, xy, ry, hkeep⟩ := HF6.out.selK HB6.out (by decide) (by decide) true
          change w6.cell? ⟨c, 0, none⟩ = some vy at xy
          have hvy : vy = .slice (some ⟨g1, 0, none⟩) (s.sel true).length vc := by
            have h1 := cellK HX1.out HT6.out.2
            rw [xy] at h1
            injection h1
          subst hvy
          obtain ⟨g2, a2, d2, e2, x2, w07, f2, w08, w09⟩ := ry.at HJ.out.2.2.2
          clear w07 w08 w09
          injection e2 with e3
          injection e3 with e4
          subst e4
          have HSet := ry.set HJ.out.2.2.2 HT6.out.1 g1 rfl
          obtain ⟨hR, hS⟩ := hkeep _ _ HSet
          have HRS : Hid (RfV 35 B (w6.setCell ⟨g1, j, none⟩ (.slice (some ⟨g5, 0, none⟩) n1 c5)) c (s.put true ((s.sel true).set j (tf))) ∧ Sk [37, 35] B w6 (w6.setCell ⟨g1, j, none⟩ (.slice (some ⟨g5, 0, none⟩) n1 c5))) := ⟨hR, hS⟩
          have HSk1 : Hid (Sk [37, 35] B w w6) := sk_below (HBw1.out.trans (HT6.out.2.mono HBw1.out.size)) HBw.out
          clear hR hS hkeep HSet ry HT6 HTn
          go_wp2
          go_ret
          refine ⟨rfl, ?_, Sk.mono (M := [35, 37]) (HSk1.out.trans HRS.out.2) (by simp)⟩
          rw [HE.out]
          exact HRS.out.1
        · go_region
          have HT6 : Hid (PcT B (w5.setCell ⟨g5, q, none⟩ (.int .u8 (bits BinOp.xor IntKind.u8 x 64))).drew (.slice (some ⟨g5, 0, none⟩) n1 c5) (tf) ∧ Below w1.heap.size w1 (w5.setCell ⟨g5, q, none⟩ (.int .u8 (bits BinOp.xor IntKind.u8 x 64))).drew) := HTn.out _ rfl
          generalize (w5.setCell ⟨g5, q, none⟩ (.int .u8 (bits BinOp.xor IntKind.u8 x 64))).drew = w6 at *
          have HF6 : Hid (RfV 35 B w6 c s) := HF1.out.over HB1.out HT6.out.2
          have HB6 : Hid (B ≤ w6.heap.size) := Nat.le_trans HB1.out HT6.out.2.size
          obtain ⟨vy, xy, ry, hkeep⟩ := HF6.out.selK HB6.out (by decide) (by decide) true
          change w6.cell? ⟨c, 0, none⟩ = some vy at xy
          have hvy : vy = .slice (some ⟨g1, 0, none⟩) (s.sel true).length vc := by
            have h1 := cellK HX1.out HT6.out.2
            rw [xy] at h1
            injection h1
          subst hvy
          obtain ⟨g2, a2, d2, e2, x2, w07, f2, w08, w09⟩ := ry.at HJ.out.2.2.2
          clear w07 w08 w09
          injection e2 with e3
          injection e3 with e4
          subst e4
          have HSet := ry.set HJ.out.2.2.2 HT6.out.1 g1 rfl
          obtain ⟨hR, hS⟩ := hkeep _ _ HSet
          have HRS : Hid (RfV 35 B (w6.setCell ⟨g1, j, none⟩ (.slice (some ⟨g5, 0, none⟩) n1 c5)) c (s.put true ((s.sel true).set j (tf))) ∧ Sk [37, 35] B w6 (w6.setCell ⟨g1, j, none⟩ (.slice (some ⟨g5, 0, none⟩) n1 c5))) := ⟨hR, hS⟩
          have HSk1 : Hid (Sk [37, 35] B w w6) := sk_below (HBw1.out.trans (HT6.out.2.mono HBw1.out.size)) HBw.out
          clear hR hS hkeep HSet ry HT6 HTn
          go_wp2
          go_ret
          refine ⟨rfl, ?_, Sk.mono (M := [35, 37]) (HSk1.out.trans HRS.out.2) (by simp)⟩
          rw [HE.out]
          exact HRS.out.1
        · go_region
          have HT6 : Hid (PcT B (w5.setCell ⟨g5, q, none⟩ (.int .u8 (bits BinOp.xor IntKind.u8 x 128))).drew (.slice (some ⟨g5, 0, none⟩) n1 c5) (tf) ∧ Below w1.heap.size w1 (w5.setCell ⟨g5, q, none⟩ (.int .u8 (bits BinOp.xor IntKind.u8 x 128))).drew) := HTn.out _ rfl
          generalize (w5.setCell ⟨g5, q, none⟩ (.int .u8 (bits BinOp.xor IntKind.u8 x 128))).drew = w6 at *
          have HF6 : Hid (RfV 35 B w6 c s) := HF1.out.over HB1.out HT6.out.2
          have HB6 : Hid (B ≤ w6.heap.size) := Nat.le_trans HB1.out HT6.out.2.size
          obtain ⟨vy, xy, ry, hkeep⟩ := HF6.out.selK HB6.out (by decide) (by decide) true
          change w6.cell? ⟨c, 0, none⟩ = some vy at xy
          have hvy : vy = .slice (some ⟨g1, 0, none⟩) (s.sel true).length vc := by
            have h1 := cellK HX1.out HT6.out.2
            rw [xy] at h1
            injection h1
          subst hvy
          obtain ⟨g2, a2, d2, e2, x2, w07, f2, w08, w09⟩ := ry.at HJ.out.2.2.2
          clear w07 w08 w09
          injection e2 with e3
          injection e3 with e4
          subst e4
          have HSet := ry.set HJ.out.2.2.2 HT6.out.1 g1 rfl
          obtain ⟨hR, hS⟩ := hkeep _ _ HSet
          have HRS : Hid (RfV 35 B (w6.setCell ⟨g1, j, none⟩ (.slice (some ⟨g5, 0, none⟩) n1 c5)) c (s.put true ((s.sel true).set j (tf))) ∧ Sk [37, 35] B w6 (w6.setCell ⟨g1, j, none⟩ (.slice (some ⟨g5, 0, none⟩) n1 c5))) := ⟨hR, hS⟩
          have HSk1 : Hid (Sk [37, 35] B w w6) := sk_below (HBw1.out.trans (HT6.out.2.mono HBw1.out.size)) HBw.out
          clear hR hS hkeep HSet ry HT6 HTn
          go_wp2
          go_ret
          refine ⟨rfl, ?_, Sk.mono (M := [35, 37]) (HSk1.out.trans HRS.out.2) (by simp)⟩
          rw [HE.out]
          exact HRS.out.1
    | false =>
      obtain ⟨j, hj, hjl, hw0⟩ := where_to h ho hn hq (up := false) hup
      have hk64 : ((s.sel false).length : Int) ≤ 64 := by have := (Lk.ok_sel ho false).1; omega
      have HNl : Hid (j < (s.sel false).length ∧ (s.sel false).length ≤ 100) := ⟨hjl, by omega⟩
      have HF : Hid (RfV 35 B w c s) := h
      have HBw : Hid (B ≤ w.heap.size) := hB
      have HJ : Hid (s.at n = (j : Int) ∧ s.way n = false ∧ s.has n = true ∧ j < (s.sel false).length) := ⟨hj, hup, hq, hjl⟩
      clear h hj hup hq hB hjl
      have HFm : Hid (s.frame n = (s.sel false).getD j []) := by
        unfold Hid Lk.frame
        rw [HJ.out.2.1, HJ.out.1]
        rfl
      have HE : Hid (s.spoil n bit = s.put false ((s.sel false).set j (turnF (s.frame n) bit))) := by
        unfold Hid Lk.spoil
        rw [HJ.out.2.2.1, if_pos rfl, HJ.out.2.1, HJ.out.1, Int.toNat_natCast]
      have HOk : Hid (okF (s.frame n)) := Lk.ok_frame ho HJ.out.2.2.1
      rw [HJ.out.2.2.1]
      generalize s.spoil n bit = s' at *
      go_enter Try.func23, Try.ntmps23
      go_upto_region 2 with (go_at_call 33; refine hw0.mono ?_; rintro e w1 ⟨rfl, hb1⟩)
      have HF1 : Hid (RfV 35 B w1 c s) := HF.out.over HBw.out hb1
      have HB1 : Hid (B ≤ w1.heap.size) := Nat.le_trans HBw.out hb1.size
      have HBw1 : Hid (Below w.heap.size w w1) := hb1
      obtain ⟨vx, xx, rx, _⟩ := HF1.out.selK HB1.out (by decide) (by decide) false
      change w1.cell? ⟨c, 1, none⟩ = some vx at xx
      obtain ⟨va, vc, hvx, _⟩ := rx.slice
      subst hvx
      obtain ⟨g1, a1, d1, e1, x1, w01, w02, y1, w03⟩ := rx.at HJ.out.2.2.2
      subst e1
      have e2 : (s.sel false)[j]'HJ.out.2.2.2 = s.frame n := by
        rw [HFm.out, List.getD_eq_getElem?_getD, List.getElem?_eq_getElem HJ.out.2.2.2]
        rfl
      rw [e2] at x1 y1
      have HX1 : Hid (w1.cell? ⟨c, 1, none⟩ = some (.slice (some ⟨g1, 0, none⟩) (s.sel false).length vc)) := xx
      clear rx hb1 w01 w02 w03 e2
      generalize s.frame n = f at *
      generalize hn1 : f.length = n1 at *
      have HFr : Hid (Bs w1 a1 n1 f ∧ 0 < n1 ∧ n1 ≤ 1024) := ⟨y1, by have := HOk.out.2.1; omega, by have := HOk.out.2.2; omega⟩
      have HN1 : Hid (f.length = n1) := hn1
      clear y1 hn1
      have hjk : j < (s.sel false).length := HJ.out.2.2.2
      have hji : (j : Int) < ((s.sel false).length : Int) := by omega
      have hlen1 : (n1 : Int) ≤ 1024 := by have := HFr.out.2.2; omega
      have hlen0 : (0 : Int) < (n1 : Int) := by have := HFr.out.2.1; omega
      have hz : (8 * (n1 : Int) == 0) = false := beq_eq_false_iff_ne.2 (by omega)
      have hjlt : bitAt f bit < 8 * n1 := by have := bitAt_lt HOk.out.2.1 bit; rw [HN1.out] at this; exact this
      rcases Int.lt_or_le bit 0 with hb | hb
      · have hj0 : bitAt f bit = 0 := by unfold bitAt; rw [show max bit 0 = 0 by omega]; exact Nat.zero_mod _
        clear hw0
        go_upto_region 5 with fail
        have xx2 := cellK xx (alloc_below w1 (.cells #[] 5))
        have x12 := cellK x1 (alloc_below w1 (.cells #[] 5))
        go_upto_region 6 with (refine clone_l B rfl (.tmp 35) (.tmp 44) rfl _ rfl rfl a1 n1 d1 f rfl HFr.out.1 HFr.out.2.1 HFr.out.2.2 ?_; intro v5 w5 hc5)
        obtain ⟨g5, c5, hv5, hg5, hcell, hfz, hturn⟩ := hc5.turn HOk.out bit
        rw [HN1.out] at hv5 hturn
        subst hv5
        clear xx x1 xx2 x12
        have hc0 := hcell 0 (by rw [HN1.out]; omega)
        have hf0 := hfz 0 (by rw [HN1.out]; omega)
        have HTn : Hid (∀ y : Int, y = ((2 ^ 0 : Nat) : Int) → PcT B (w5.setCell ⟨g5, 0, none⟩ (.int .u8 (bits BinOp.xor IntKind.u8 (f.getD 0 0) y))).drew (.slice (some ⟨g5, 0, none⟩) n1 c5) (turnF f bit) ∧ Below w1.heap.size w1 (w5.setCell ⟨g5, 0, none⟩ (.int .u8 (bits BinOp.xor IntKind.u8 (f.getD 0 0) y))).drew) := fun y hy => hturn 0 (by rw [hj0]) 0 (by rw [hj0]) y (turn_bits _ _ _ (byt_get HOk.out.1 0) (by decide) hy)
        clear hcell hfz hturn hc5 hjlt
        generalize hx : f.getD 0 0 = x at *
        go_region
        have HT6 : Hid (PcT B (w5.setCell ⟨g5, 0, none⟩ (.int .u8 (bits BinOp.xor IntKind.u8 x 1))).drew (.slice (some ⟨g5, 0, none⟩) n1 c5) (turnF f bit) ∧ Below w1.heap.size w1 (w5.setCell ⟨g5, 0, none⟩ (.int .u8 (bits BinOp.xor IntKind.u8 x 1))).drew) := HTn.out _ rfl
        generalize (w5.setCell ⟨g5, 0, none⟩ (.int .u8 (bits BinOp.xor IntKind.u8 x 1))).drew = w6 at *
        have HF6 : Hid (RfV 35 B w6 c s) := HF1.out.over HB1.out HT6.out.2
        have HB6 : Hid (B ≤ w6.heap.size) := Nat.le_trans HB1.out HT6.out.2.size
        obtain ⟨vy, xy, ry, hkeep⟩ := HF6.out.selK HB6.out (by decide) (by decide) false
        change w6.cell? ⟨c, 1, none⟩ = some vy at xy
        have hvy : vy = .slice (some ⟨g1, 0, none⟩) (s.sel false).length vc := by
          have h1 := cellK HX1.out HT6.out.2
          rw [xy] at h1
          injection h1
        subst hvy
        obtain ⟨g2, a2, d2, e2, x2, w07, f2, w08, w09⟩ := ry.at HJ.out.2.2.2
        clear w07 w08 w09
        injection e2 with e3
        injection e3 with e4
        subst e4
        have HSet := ry.set HJ.out.2.2.2 HT6.out.1 g1 rfl
        obtain ⟨hR, hS⟩ := hkeep _ _ HSet
        have HRS : Hid (RfV 35 B (w6.setCell ⟨g1, j, none⟩ (.slice (some ⟨g5, 0, none⟩) n1 c5)) c (s.put false ((s.sel false).set j (turnF f bit))) ∧ Sk [37, 35] B w6 (w6.setCell ⟨g1, j, none⟩ (.slice (some ⟨g5, 0, none⟩) n1 c5))) := ⟨hR, hS⟩
        have HSk1 : Hid (Sk [37, 35] B w w6) := sk_below (HBw1.out.trans (HT6.out.2.mono HBw1.out.size)) HBw.out
        clear hR hS hkeep HSet ry HT6 HTn
        go_wp2
        go_ret
        refine ⟨rfl, ?_, Sk.mono (M := [35, 37]) (HSk1.out.trans HRS.out.2) (by simp)⟩
        rw [HE.out]
        exact HRS.out.1
      · obtain ⟨m, rfl⟩ : ∃ m : Nat, bit = (m : Int) := ⟨bit.toNat, by omega⟩
        have hm : (m : Int) % (8 * (n1 : Int)) = (bitAt f m : Int) := by unfold bitAt; rw [show max (m : Int) 0 = (m : Int) by omega, HN1.out]; simp
        clear hw0
        go_upto_region 5 with fail
        have xx2 := cellK xx (alloc_below w1 (.cells #[] 5))
        have x12 := cellK x1 (alloc_below w1 (.cells #[] 5))
        rw [hm]
        go_upto_region 6 with (refine clone_l B rfl (.tmp 35) (.tmp 44) rfl _ rfl rfl a1 n1 d1 f rfl HFr.out.1 HFr.out.2.1 HFr.out.2.2 ?_; intro v5 w5 hc5)
        obtain ⟨g5, c5, hv5, hg5, hcell, hfz, hturn⟩ := hc5.turn HOk.out m
        rw [HN1.out] at hv5 hturn
        subst hv5
        clear xx x1 xx2 x12
        obtain ⟨q, hq⟩ : ∃ q, q = bitAt f m / 8 := ⟨_, rfl⟩
        obtain ⟨r, hr⟩ : ∃ r, r = bitAt f m % 8 := ⟨_, rfl⟩
        have hr8 : r < 8 := by omega
        have hqlt : q < n1 := by omega
        have hc0 := hcell q (by rw [HN1.out]; exact hqlt)
        have hf0 := hfz q (by rw [HN1.out]; exact hqlt)
        have HTn : Hid (∀ y : Int, y = ((2 ^ r : Nat) : Int) → PcT B (w5.setCell ⟨g5, q, none⟩ (.int .u8 (bits BinOp.xor IntKind.u8 (f.getD q 0) y))).drew (.slice (some ⟨g5, 0, none⟩) n1 c5) (turnF f m) ∧ Below w1.heap.size w1 (w5.setCell ⟨g5, q, none⟩ (.int .u8 (bits BinOp.xor IntKind.u8 (f.getD q 0) y))).drew) := fun y hy => hturn q hq.symm r hr.symm y (turn_bits _ _ _ (byt_get HOk.out.1 q) hr8 hy)
        clear hcell hfz hturn hc5
        generalize hx : f.getD q 0 = x at *
        have hq1 : ((bitAt f m : Nat) : Int) / 8 = (q : Int) := by omega
        have hr1 : ((bitAt f m : Nat) : Int) % 8 = (r : Int) := by omega
        clear hm
        generalize turnF f m = tf at *
        generalize bitAt f m = jb at *
        have hjb0 : (0 : Int) ≤ (jb : Int) := by omega
        have hqi : (q : Int) < (n1 : Int) := by omega
        clear hq hr hjlt
        have HR8 : Hid (r < 8) := hr8
        rcases (show r = 0 ∨ r = 1 ∨ r = 2 ∨ r = 3 ∨ r = 4 ∨ r = 5 ∨ r = 6 ∨ r = 7 by omega) with rfl | rfl | rfl | rfl | rfl | rfl | rfl | rfl
        · go_region
          have HT6 : Hid (PcT B (w5.setCell ⟨g5, q, none⟩ (.int .u8 (bits BinOp.xor IntKind.u8 x 1))).drew (.slice (some ⟨g5, 0, none⟩) n1 c5) (tf) ∧ Below w1.heap.size w1 (w5.setCell ⟨g5, q, none⟩ (.int .u8 (bits BinOp.xor IntKind.u8 x 1))).drew) := HTn.out _ rfl
          generalize (w5.setCell ⟨g5, q, none⟩ (.int .u8 (bits BinOp.xor IntKind.u8 x 1))).drew = w6 at *
          have HF6 : Hid (RfV 35 B w6 c s) := HF1.out.over HB1.out HT6.out.2
          have HB6 : Hid (B ≤ w6.heap.size) := Nat.le_trans HB1.out HT6.out.2.size
          obtain ⟨vy, xy, ry, hkeep⟩ := HF6.out.selK HB6.out (by decide) (by decide) false
          change w6.cell? ⟨c, 1, none⟩ = some vy at xy
          have hvy : vy = .slice (some ⟨g1, 0, none⟩) (s.sel false).length vc := by
            have h1 := cellK HX1.out HT6.out.2
            rw [xy] at h1
            injection h1
          subst hvy
          obtain ⟨g2, a2, d2, e2, x2, w07, f2, w08, w09⟩ := ry.at HJ.out.2.2.2
          clear w07 w08 w09
          injection e2 with e3
          injection e3 with e4
          subst e4
          have HSet := ry.set HJ.out.2.2.2 HT6.out.1 g1 rfl
          obtain ⟨hR, hS⟩ := hkeep _ _ HSet
          have HRS : Hid (RfV 35 B (w6.setCell ⟨g1, j, none⟩ (.slice (some ⟨g5, 0, none⟩) n1 c5)) c (s.put false ((s.sel false).set j (tf))) ∧ Sk [37, 35] B w6 (w6.setCell ⟨g1, j, none⟩ (.slice (some ⟨g5, 0, none⟩) n1 c5))) := ⟨hR, hS⟩
          have HSk1 : Hid (Sk [37, 35] B w w6) := sk_below (HBw1.out.trans (HT6.out.2.mono HBw1.out.size)) HBw.out
          clear hR hS hkeep HSet ry HT6 HTn
          go_wp2
          go_ret
          refine ⟨rfl, ?_, Sk.mono (M := [35, 37]) (HSk1.out.trans HRS.out.2) (by simp)⟩
          rw [HE.out]
          exact HRS.out.1
        · go_region
          have HT6 : Hid (PcT B (w5.setCell ⟨g5, q, none⟩ (.int .u8 (bits BinOp.xor IntKind.u8 x 2))).drew (.slice (some ⟨g5, 0, none⟩) n1 c5) (tf) ∧ Below w1.heap.size w1 (w5.setCell ⟨g5, q, none⟩ (.int .u8 (bits BinOp.xor IntKind.u8 x 2))).drew) := HTn.out _ rfl
          generalize (w5.setCell ⟨g5, q, none⟩ (.int .u8 (bits BinOp.xor IntKind.u8 x 2))).drew = w6 at *
          have HF6 : Hid (RfV 35 B w6 c s) := HF1.out.over HB1.out HT6.out.2
          have HB6 : Hid (B ≤ w6.heap.size) := Nat.le_trans HB1.out HT6.out.2.size
          obtain ⟨vy, xy, ry, hkeep⟩ := HF6.out.selK HB6.out (by decide) (by decide) false
          change w6.cell? ⟨c, 1, none⟩ = some vy at xy
          have hvy : vy = .slice (some ⟨g1, 0, none⟩) (s.sel false).length vc := by
            have h1 := cellK HX1.out HT6.out.2
            rw [xy] at h1
            injection h1
          subst hvy
          obtain ⟨g2, a2, d2, e2, x2, w07, f2, w08, w09⟩ := ry.at HJ.out.2.2.2
          clear w07 w08 w09
          injection e2 with e3
          injection e3 with e4
          subst e4
          have HSet := ry.set HJ.out.2.2.2 HT6.out.1 g1 rfl
          obtain ⟨hR, hS⟩ := hkeep _ _ HSet
          have HRS : Hid (RfV 35 B (w6.setCell ⟨g1, j, none⟩ (.slice (some ⟨g5, 0, none⟩) n1 c5)) c (s.put false ((s.sel false).set j (tf))) ∧ Sk [37, 35] B w6 (w6.setCell ⟨g1, j, none⟩ (.slice (some ⟨g5, 0, none⟩) n1 c5))) := ⟨hR, hS⟩
          have HSk1 : Hid (Sk [37, 35] B w w6) := sk_below (HBw1.out.trans (HT6.out.2.mono HBw1.out.size)) HBw.out
          clear hR hS hkeep HSet ry HT6 HTn
          go_wp2
          go_ret
          refine ⟨rfl, ?_, Sk.mono (M := [35, 37]) (HSk1.out.trans HRS.out.2) (by simp)⟩
          rw [HE.out]
          exact HRS.out.1
        · go_region
          have HT6 : Hid (PcT B (w5.setCell ⟨g5, q, none⟩ (.int .u8 (bits BinOp.xor IntKind.u8 x 4))).drew (.slice (some ⟨g5, 0, none⟩) n1 c5) (tf) ∧ Below w1.heap.size w1 (w5.setCell ⟨g5, q, none⟩ (.int .u8 (bits BinOp.xor IntKind.u8 x 4))).drew) := HTn.out _ rfl
          generalize (w5.setCell ⟨g5, q, none⟩ (.int .u8 (bits BinOp.xor IntKind.u8 x 4))).drew = w6 at *
          have HF6 : Hid (RfV 35 B w6 c s) := HF1.out.over HB1.out HT6.out.2
          have HB6 : Hid (B ≤ w6.heap.size) := Nat.le_trans HB1.out HT6.out.2.size
          obtain ⟨vy, xy, ry, hkeep⟩ := HF6.out.selK HB6.out (by decide) (by decide) false
          change w6.cell? ⟨c, 1, none⟩ = some vy at xy
          have hvy : vy = .slice (some ⟨g1, 0, none⟩) (s.sel false).length vc := by
            have h1 := cellK HX1.out HT6.out.2
            rw [xy] at h1
            injection h1
          subst hvy
          obtain ⟨g2, a2, d2, e2, x2, w07, f2, w08, w09⟩ := ry.at HJ.out.2.2.2
          clear w07 w08 w09
          injection e2 with e3
          injection e3 with e4
          subst e4
          have HSet := ry.set HJ.out.2.2.2 HT6.out.1 g1 rfl
          obtain ⟨hR, hS⟩ := hkeep _ _ HSet
          have HRS : Hid (RfV 35 B (w6.setCell ⟨g1, j, none⟩ (.slice (some ⟨g5, 0, none⟩) n1 c5)) c (s.put false ((s.sel false).set j (tf))) ∧ Sk [37, 35] B w6 (w6.setCell ⟨g1, j, none⟩ (.slice (some ⟨g5, 0, none⟩) n1 c5))) := ⟨hR, hS⟩
          have HSk1 : Hid (Sk [37, 35] B w w6) := sk_below (HBw1.out.trans (HT6.out.2.mono HBw1.out.size)) HBw.out
          clear hR hS hkeep HSet ry HT6 HTn
          go_wp2
          go_ret
          refine ⟨rfl, ?_, Sk.mono (M := [35, 37]) (HSk1.out.trans HRS.out.2) (by simp)⟩
          rw [HE.out]
          exact HRS.out.1
        · go_region
          have HT6 : Hid (PcT B (w5.setCell ⟨g5, q, none⟩ (.int .u8 (bits BinOp.xor IntKind.u8 x 8))).drew (.slice (some ⟨g5, 0, none⟩) n1 c5) (tf) ∧ Below w1.heap.size w1 (w5.setCell ⟨g5, q, none⟩ (.int .u8 (bits BinOp.xor IntKind.u8 x 8))).drew) := HTn.out _ rfl
          generalize (w5.setCell ⟨g5, q, none⟩ (.int .u8 (bits BinOp.xor IntKind.u8 x 8))).drew = w6 at *
          have HF6 : Hid (RfV 35 B w6 c s) := HF1.out.over HB1.out HT6.out.2
          have HB6 : Hid (B ≤ w6.heap.size) := Nat.le_trans HB1.out HT6.out.2.size
          obtain ⟨vy, xy, ry, hkeep⟩ := HF6.out.selK HB6.out (by decide) (by decide) false
          change w6.cell? ⟨c, 1, none⟩ = some vy at xy
          have hvy : vy = .slice (some ⟨g1, 0, none⟩) (s.sel false).length vc := by
            have h1 := cellK HX1.out HT6.out.2
            rw [xy] at h1
            injection h1
          subst hvy
          obtain ⟨g2, a2, d2, e2, x2, w07, f2, w08, w09⟩ := ry.at HJ.out.2.2.2
          clear w07 w08 w09
          injection e2 with e3
          injection e3 with e4
          subst e4
          have HSet := ry.set HJ.out.2.2.2 HT6.out.1 g1 rfl
          obtain ⟨hR, hS⟩ := hkeep _ _ HSet
          have HRS : Hid (RfV 35 B (w6.setCell ⟨g1, j, none⟩ (.slice (some ⟨g5, 0, none⟩) n1 c5)) c (s.put false ((s.sel false).set j (tf))) ∧ Sk [37, 35] B w6 (w6.setCell ⟨g1, j, none⟩ (.slice (some ⟨g5, 0, none⟩) n1 c5))) := ⟨hR, hS⟩
          have HSk1 : Hid (Sk [37, 35] B w w6) := sk_below (HBw1.out.trans (HT6.out.2.mono HBw1.out.size)) HBw.out
          clear hR hS hkeep HSet ry HT6 HTn
          go_wp2
          go_ret
          refine ⟨rfl, ?_, Sk.mono (M := [35, 37]) (HSk1.out.trans HRS.out.2) (by simp)⟩
          rw [HE.out]
          exact HRS.out.1
        · go_region
          have HT6 : Hid (PcT B (w5.setCell ⟨g5, q, none⟩ (.int .u8 (bits BinOp.xor IntKind.u8 x 16))).drew (.slice (some ⟨g5, 0, none⟩) n1 c5) (tf) ∧ Below w1.heap.size w1 (w5.setCell ⟨g5, q, none⟩ (.int .u8 (bits BinOp.xor IntKind.u8 x 16))).drew) := HTn.out _ rfl
          generalize (w5.setCell ⟨g5, q, none⟩ (.int .u8 (bits BinOp.xor IntKind.u8 x 16))).drew = w6 at *
          have HF6 : Hid (RfV 35 B w6 c s) := HF1.out.over HB1.out HT6.out.2
          have HB6 : Hid (B ≤ w6.heap.size) := Nat.le_trans HB1.out HT6.out.2.size
          obtain ⟨vy, xy, ry, hkeep⟩ := HF6.out.selK HB6.out (by decide) (by decide) false
          change w6.cell? ⟨c, 1, none⟩ = some vy at xy
          have hvy : vy = .slice (some ⟨g1, 0, none⟩) (s.sel false).length vc := by
            have h1 := cellK HX1.out HT6.out.2
            rw [xy] at h1
            injection h1
          subst hvy
          obtain ⟨g2, a2, d2, e2, x2, w07, f2, w08, w09⟩ := ry.at HJ.out.2.2.2
          clear w07 w08 w09
          injection e2 with e3
          injection e3 with e4
          subst e4
          have HSet := ry.set HJ.out.2.2.2 HT6.out.1 g1 rfl
          obtain ⟨hR, hS⟩ := hkeep _ _ HSet
          have HRS : Hid (RfV 35 B (w6.setCell ⟨g1, j, none⟩ (.slice (some ⟨g5, 0, none⟩) n1 c5)) c (s.put false ((s.sel false).set j (tf))) ∧ Sk [37, 35] B w6 (w6.setCell ⟨g1, j, none⟩ (.slice (some ⟨g5, 0, none⟩) n1 c5))) := ⟨hR, hS⟩
          have HSk1 : Hid (Sk [37, 35] B w w6) := sk_below (HBw1.out.trans (HT6.out.2.mono HBw1.out.size)) HBw.out
          clear hR hS hkeep HSet ry HT6 HTn
          go_wp2
          go_ret
          refine ⟨rfl, ?_, Sk.mono (M := [35, 37]) (HSk1.out.trans HRS.out.2) (by simp)⟩
          rw [HE.out]
          exact HRS.out.1
        · go_region
          have HT6 : Hid (PcT B (w5.setCell ⟨g5, q, none⟩ (.int .u8 (bits BinOp.xor IntKind.u8 x 32))).drew (.slice (some ⟨g5, 0, none⟩) n1 c5) (tf) ∧ Below w1.heap.size w1 (w5.setCell ⟨g5, q, none⟩ (.int .u8 (bits BinOp.xor IntKind.u8 x 32))).drew) := HTn.out _ rfl
          generalize (w5.setCell ⟨g5, q, none⟩ (.int .u8 (bits BinOp.xor IntKind.u8 x 32))).drew = w6 at *
          have HF6 : Hid (RfV 35 B w6 c s) := HF1.out.over HB1.out HT6.out.2
          have HB6 : Hid (B ≤ w6.heap.size) := Nat.le_trans HB1.out HT6.out.2.size
          obtain ⟨vy, xy, ry, hkeep⟩ := HF6.out.selK HB6.out (by decide) (by decide) false
          change w6.cell? ⟨c, 1, none⟩ = some vy at xy
          have hvy : vy = .slice (some ⟨g1, 0, none⟩) (s.sel false).length vc := by
            have h1 := cellK HX1.out HT6.out.2
            rw [xy] at h1
            injection h1
          subst hvy
          obtain ⟨g2, a2, d2, e2, x2, w07, f2, w08, w09⟩ := ry.at HJ.out.2.2.2
          clear w07 w08 w09
          injection e2 with e3
          injection e3 with e4
          subst e4
          have HSet := ry.set HJ.out.2.2.2 HT6.out.1 g1 rfl
          obtain ⟨hR, hS⟩ := hkeep _ _ HSet
          have HRS : Hid (RfV 35 B (w6.setCell ⟨g1, j, none⟩ (.slice (some ⟨g5, 0, none⟩) n1 c5)) c (s.put false ((s.sel false).set j (tf))) ∧ Sk [37, 35] B w6 (w6.setCell ⟨g1, j, none⟩ (.slice (some ⟨g5, 0, none⟩) n1 c5))) := ⟨hR, hS⟩
          have HSk1 : Hid (Sk [37, 35] B w w6) := sk_below (HBw1.out.trans (HT6.out.2.mono HBw1.out.size)) HBw.out
          clear hR hS hkeep HSet ry HT6 HTn
          go_wp2
          go_ret
          refine ⟨rfl, ?_, Sk.mono (M := [35, 37]) (HSk1.out.trans HRS.out.2) (by simp)⟩
          rw [HE.out]
          exact HRS.out.1
        · go_region
          have HT6 : Hid (PcT B (w5.setCell ⟨g5, q, none⟩ (.int .u8 (bits BinOp.xor IntKind.u8 x 64))).drew (.slice (some ⟨g5, 0, none⟩) n1 c5) (tf) ∧ Below w1.heap.size w1 (w5.setCell ⟨g5, q, none⟩ (.int .u8 (bits BinOp.xor IntKind.u8 x 64))).drew) := HTn.out _ rfl
          generalize (w5.setCell ⟨g5, q, none⟩ (.int .u8 (bits BinOp.xor IntKind.u8 x 64))).drew = w6 at *
          have HF6 : Hid (RfV 35 B w6 c s) := HF1.out.over HB1.out HT6.out.2
          have HB6 : Hid (B ≤ w6.heap.size) := Nat.le_trans HB1.out HT6.out.2.size
          obtain ⟨vy, xy, ry, hkeep⟩ := HF6.out.selK HB6.out (by decide) (by decide) false
          change w6.cell? ⟨c, 1, none⟩ = some vy at xy
          have hvy : vy = .slice (some ⟨g1, 0, none⟩) (s.sel false).length vc := by
            have h1 := cellK HX1.out HT6.out.2
            rw [xy] at h1
            injection h1
          subst hvy
          obtain ⟨g2, a2, d2, e2, x2, w07, f2, w08, w09⟩ := ry.at HJ.out.2.2.2
          clear w07 w08 w09
          injection e2 with e3
          injection e3 with e4
          subst e4
          have HSet := ry.set HJ.out.2.2.2 HT6.out.1 g1 rfl
          obtain ⟨hR, hS⟩ := hkeep _ _ HSet
          have HRS : Hid (RfV 35 B (w6.setCell ⟨g1, j, none⟩ (.slice (some ⟨g5, 0, none⟩) n1 c5)) c (s.put false ((s.sel false).set j (tf))) ∧ Sk [37, 35] B w6 (w6.setCell ⟨g1, j, none⟩ (.slice (some ⟨g5, 0, none⟩) n1 c5))) := ⟨hR, hS⟩
          have HSk1 : Hid (Sk [37, 35] B w w6) := sk_below (HBw1.out.trans (HT6.out.2.mono HBw1.out.size)) HBw.out
          clear hR hS hkeep HSet ry HT6 HTn
          go_wp2
          go_ret
          refine ⟨rfl, ?_, Sk.mono (M := [35, 37]) (HSk1.out.trans HRS.out.2) (by simp)⟩
          rw [HE.out]
          exact HRS.out.1
        · go_region
          have HT6 : Hid (PcT B (w5.setCell ⟨g5, q, none⟩ (.int .u8 (bits BinOp.xor IntKind.u8 x 128))).drew (.slice (some ⟨g5, 0, none⟩) n1 c5) (tf) ∧ Below w1.heap.size w1 (w5.setCell ⟨g5, q, none⟩ (.int .u8 (bits BinOp.xor IntKind.u8 x 128))).drew) := HTn.out _ rfl
          generalize (w5.setCell ⟨g5, q, none⟩ (.int .u8 (bits BinOp.xor IntKind.u8 x 128))).drew = w6 at *
          have HF6 : Hid (RfV 35 B w6 c s) := HF1.out.over HB1.out HT6.out.2
          have HB6 : Hid (B ≤ w6.heap.size) := Nat.le_trans HB1.out HT6.out.2.size
          obtain ⟨vy, xy, ry, hkeep⟩ := HF6.out.selK HB6.out (by decide) (by decide) false
          change w6.cell? ⟨c, 1, none⟩ = some vy at xy
          have hvy : vy = .slice (some ⟨g1, 0, none⟩) (s.sel false).length vc := by
            have h1 := cellK HX1.out HT6.out.2
            rw [xy] at h1
            injection h1
          subst hvy
          obtain ⟨g2, a2, d2, e2, x2, w07, f2, w08, w09⟩ := ry.at HJ.out.2.2.2
          clear w07 w08 w09
          injection e2 with e3
          injection e3 with e4
          subst e4
          have HSet := ry.set HJ.out.2.2.2 HT6.out.1 g1 rfl
          obtain ⟨hR, hS⟩ := hkeep _ _ HSet
          have HRS : Hid (RfV 35 B (w6.setCell ⟨g1, j, none⟩ (.slice (some ⟨g5, 0, none⟩) n1 c5)) c (s.put false ((s.sel false).set j (tf))) ∧ Sk [37, 35] B w6 (w6.setCell ⟨g1, j, none⟩ (.slice (some ⟨g5, 0, none⟩) n1 c5))) := ⟨hR, hS⟩
          have HSk1 : Hid (Sk [37, 35] B w w6) := sk_below (HBw1.out.trans (HT6.out.2.mono HBw1.out.size)) HBw.out
          clear hR hS hkeep HSet ry HT6 HTn
          go_wp2
          go_ret
          refine ⟨rfl, ?_, Sk.mono (M := [35, 37]) (HSk1.out.trans HRS.out.2) (by simp)⟩
          rw [HE.out]
          exact HRS.out.1

end Go.Proofs.Ytljceoojbppaeaa
