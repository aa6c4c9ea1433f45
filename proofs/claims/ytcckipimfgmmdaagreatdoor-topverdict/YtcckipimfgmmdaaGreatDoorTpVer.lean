/-
  TopVerdict: filters out of texts answer of a call what forbids most of what the texts mean: the walk.
-/
import Derived.Test.YtcckipimfgmmdaaGreatDoorTpAwk
import Derived.Test.YtcckipimfgmmdaaGreatDoorMRDecide
import Derived.Test.YtcckipimfgmmdaaGreatDoorAMostAll
namespace Go.Proofs.YtcckipimfgmmdaaGreatDoor
open Go.RowKit

/-- rules stay where they are when a stack is turned. -/
theorem blk_not {X : World} {B b o : Nat} {vc ve u : Value} {ls : List (List V.In)} (hS : S.StkV X B vc ve ls) (hc : X.cell? ⟨b, o, none⟩ = some u) (hu : ∀ a n c, u ≠ .slice a n c) : b ≠ B := by
  rintro rfl
  obtain ⟨a1, k1, rfl⟩ := S.own_slice hS.code
  obtain ⟨a2, k2, rfl⟩ := S.own_slice hS.ends
  have h := hS.blk.cell o
  rw [hc] at h
  match o, h with
  | 0, h => exact hu _ _ _ (Option.some.inj h)
  | 1, h => exact hu _ _ _ (Option.some.inj h)
  | (n + 2), h => cases h
theorem blk_stays {X Y : World} {B b : Nat} (hg : X.grownBy Y (some B)) (hne : b ≠ B) (hl : b < X.heap.size) : Y.heap[b]? = X.heap[b]? := hg.block b hl (by simpa using hne)
theorem strR_kept {X Y : World} {B : Nat} {vc ve v : Value} {ls : List (List V.In)} {l : List ByteArray} (hS : S.StkV X B vc ve ls) (hg : X.grownBy Y (some B)) (h : M.StrR X v l) : M.StrR Y v l := by
  obtain ⟨a, cap, rfl, h1, h2, hc⟩ := h
  refine ⟨a, cap, rfl, h1, h2, fun h0 => ?_⟩
  obtain ⟨b, o, rfl, hx⟩ := hc h0
  exact ⟨b, o, rfl, fun i s hi => M.cellS (hx i s hi) (blk_stays hg (blk_not hS (hx i s hi) (fun _ _ _ e => by cases e)) (World.block_lt_of_cell? X _ (hx i s hi)))⟩
theorem cdR_kept {X Y : World} {B : Nat} {vc ve v : Value} {ls : List (List V.In)} {l : List M.Xc} (hS : S.StkV X B vc ve ls) (hg : X.grownBy Y (some B)) (h : M.CdR X v l) : M.CdR Y v l := by
  obtain ⟨a, cap, rfl, h1, h2, hc⟩ := h
  refine ⟨a, cap, rfl, h1, h2, fun h0 => ?_⟩
  obtain ⟨b, o, rfl, hx⟩ := hc h0
  refine ⟨b, o, rfl, fun i s hi => ?_⟩
  obtain ⟨e0, e1, e2, e3⟩ := hx i s hi
  have q : Y.heap[b]? = X.heap[b]? := blk_stays hg (blk_not hS e0 (fun _ _ _ e => by cases e)) (World.block_lt_of_cell? X _ e0)
  exact ⟨M.cellS e0 q, M.cellS e1 q, M.cellS e2 q, M.cellS e3 q⟩
theorem rlR_kept {X Y : World} {B : Nat} {vc ve v : Value} {ls : List (List V.In)} {l : List M.Xr} (hS : S.StkV X B vc ve ls) (hg : X.grownBy Y (some B)) (h : M.RlR X v l) : M.RlR Y v l := by
  obtain ⟨a, cap, rfl, h1, h2, hc, hr⟩ := h
  refine ⟨a, cap, rfl, h1, h2, fun h0 => ?_, fun x hx => ⟨strR_kept hS hg (hr x hx).1, cdR_kept hS hg (hr x hx).2⟩⟩
  obtain ⟨b, o, rfl, hx⟩ := hc h0
  refine ⟨b, o, rfl, fun i s hi => ?_⟩
  obtain ⟨e0, e1, e2, e3⟩ := hx i s hi
  have q : Y.heap[b]? = X.heap[b]? := blk_stays hg (blk_not hS e0 (fun _ _ _ e => by cases e)) (World.block_lt_of_cell? X _ e0)
  exact ⟨M.cellS e0 q, M.cellS e1 q, M.cellS e2 q, M.cellS e3 q⟩

/-- filters so far, and what they answer. -/
structure Lp (X0 : World) (d : M.Da) (i : Nat) (vc ve v7 : Value) (ls : List (List V.In)) (L : List Int) (wr : World) : Prop where
  st : S.StkV wr X0.heap.size vc ve ls
  ok : S.OkS ls
  le : ls.length ≤ i
  an : L = S.ansL ls (toV d)
  own : wr.ownsRow X0.heap.size 23 1 v7 L.length (S.cellsZ L)
  be : Below X0.heap.size X0 wr
theorem Lp.over {X0 : World} {d : M.Da} {i : Nat} {vc ve v7 : Value} {ls : List (List V.In)} {L : List Int} {wr W : World} (h : Lp X0 d i vc ve v7 ls L wr) (hb : Below wr.heap.size wr W) : Lp X0 d i vc ve v7 ls L W :=
  ⟨h.st.over hb, h.ok, h.le, h.an, S.own_over h.own hb, h.be.trans (hb.mono h.be.size)⟩
theorem Lp.up {X0 : World} {d : M.Da} {i : Nat} {vc ve v7 : Value} {ls : List (List V.In)} {L : List Int} {wr : World} (h : Lp X0 d i vc ve v7 ls L wr) : Lp X0 d (i + 1) vc ve v7 ls L wr :=
  ⟨h.st, h.ok, by have := h.le; omega, h.an, h.own, h.be⟩
theorem lp_new (X0 : World) (d : M.Da) : Lp X0 d 0 (.slice none 0 0) (.slice none 0 0) (.slice none 0 0) [] [] (X0.alloc (Obj.cells #[.slice none 0 0, .slice none 0 0] 33)) :=
  ⟨S.stk_new X0, S.okS_nil, Nat.le_refl _, rfl, ⟨rfl, .inl ⟨rfl, rfl⟩⟩, below_new _ _⟩
/-- numbers in a row of the call's own. -/
theorem own_nums {w : World} {b c : Nat} {a : Option Addr} {l : List Int} (h : w.ownsRow b 23 1 (.slice a l.length c) l.length (S.cellsZ l)) : A.Ns .u32 w a l.length l ∧ l.length ≤ c ∧ (a = none → c = 0) := by
  obtain ⟨a', c', e, h1, h2⟩ := S.ns_of_own h
  cases e
  refine ⟨h1, h2, fun hn => ?_⟩
  rcases h.2 with ⟨e, _⟩ | ⟨g, cap, cur, e, _⟩
  · simp at e
    exact e.2.2
  · simp at e
    rw [hn] at e
    simp at e
theorem val_ok {k a : Int} (h : A.rightB k a = true) (W : World) : Calls Tryz.prog 11 #[.agg #[.int .i64 k, .int .i64 a]] W fun e w' => e = .returned (.tuple #[.int .u32 (A.valZ k a), .int .i64 0]) ∧ Below W.heap.size W w' := by
  have := A.value_any k a W
  unfold A.errZ at this
  rw [if_pos h] at this
  exact this

set_option linter.unusedSimpArgs false in
set_option maxRecDepth 8000 in
set_option maxHeartbeats 4000000 in
theorem verdict_walk (w : World) (v : Value) (ts : List ByteArray) (d : M.Da) (hv : P.Vars w) (h : M.StrR w v ts) (hd : d.ok) :
    Calls Tryz.prog 3 #[v, .agg d.cells.toArray] w fun e w' => e = .returned (.bool true) ∧ Below w.heap.size w w' := by
  obtain ⟨p1, c1, rfl, hk1, hk2⟩ : ∃ p c, v = .slice p ts.length c ∧ ts.length ≤ c ∧ c ≤ 9223372036854775807 := by obtain ⟨p, c, e, h1, h2, _⟩ := h; exact ⟨p, c, e, h1, h2⟩
  have HDe : Hid (∀ W k a v (rs : List M.Xr), M.RlR W v rs → Rok rs → (M.checkP k a (rs.map M.Xr.r)).1 = 0 → Calls Tryz.prog 10 #[.agg #[.int .i64 k, .int .i64 a, v], .agg d.cells.toArray] W fun e w' => e = .returned (.tuple #[.agg #[.int .i64 (M.decA d k a (rs.map M.Xr.r)).1, .int .i64 (M.decA d k a (rs.map M.Xr.r)).2], .int .i64 0]) ∧ Below W.heap.size W w') := fun W k a v rs hW hR h0 => by
    have := M.decide_any W k a v rs d hW (by have := hR.len; omega) (fun x hx => ⟨by have := hR.nam x hx; omega, by have := hR.con x hx; omega⟩) hd
    unfold M.decE at this
    rw [h0] at this
    exact this
  have HRu : Hid (∀ W b vc ve ks, S.StkV W b vc ve ks → S.OkS ks → Calls Tryz.prog 12 #[.pointer (some ⟨b, 0, none⟩), .agg d.cells.toArray] W fun e w' => e = .returned (.tuple #[.int .u32 (A.most (S.ansL ks (toV d))), .int .i64 (S.plN (S.ansL ks (toV d)))]) ∧ Below W.heap.size W w') := fun W b vc ve ks h1 h2 => S.run_any W b vc ve ks (toV d) h1 h2 hd
  obtain ⟨d1v, d2v, d3v, d4v, d5v, d6v, d7v, d8v, hAA⟩ := M.nine_of d hd
  rw [hAA] at HDe HRu ⊢
  have HD : Hid d.ok := hd
  have HS : Hid (∀ W, Below w.heap.size w W → M.StrR W (.slice p1 ts.length c1) ts) := fun W hW => h.below hW
  have HVa : Hid (∀ W, Below w.heap.size w W → P.Vars W) := fun W hW => hv.below hW
  have BE : Hid (Below w.heap.size w (w.alloc (Obj.cells #[.int .u32 d.n, d1v, d2v, d3v, d4v, d5v, d6v, d7v, d8v] 27))) := below_new w _
  have KD : Hid (V.Blk (w.alloc (Obj.cells #[.int .u32 d.n, d1v, d2v, d3v, d4v, d5v, d6v, d7v, d8v] 27)) w.heap.size 27 [.int .u32 d.n, d1v, d2v, d3v, d4v, d5v, d6v, d7v, d8v]) := V.blk_new w _ _
  clear h hv hd hAA
  generalize hdn : d.n = dn at *
  clear hdn
  go_enter Tryz.func3, Tryz.ntmps3
  go_upto_region 1 with fail
  generalize (w.alloc (Obj.cells #[.int .u32 dn, d1v, d2v, d3v, d4v, d5v, d6v, d7v, d8v] 27)) = X1 at *
  go_upto_region 2 with (first | (go_at_call 5; refine (awake_any _ (HVa.out _ BE.out)).mono ?_; rintro e w1 ⟨rfl, b1⟩))
  have HT1 : Hid (∀ W, Below w1.heap.size w1 W → Below w.heap.size w W) := fun W hW => BE.out.trans ((b1.trans (hW.mono b1.size)).mono BE.out.size)
  have HK1 : Hid (∀ W, Below w1.heap.size w1 W → V.Blk W w.heap.size 27 [.int .u32 dn, d1v, d2v, d3v, d4v, d5v, d6v, d7v, d8v]) := fun W hW => KD.out.over (b1.trans (hW.mono b1.size))
  clear b1 KD BE
  by_cases h8 : 8 < ts.length
  · have h81 : (8 : Int) < (ts.length : Int) := by omega
    go_wp2_with fail
    go_ret
    exact ⟨rfl, HT1.out _ (Below.refl _ _)⟩
  have h81 : ¬ (8 : Int) < (ts.length : Int) := by omega
  have H8 : Hid (ts.length ≤ 8) := by unfold Hid; omega
  have HN : Hid (Lp w1 d 0 (.slice none 0 0) (.slice none 0 0) (.slice none 0 0) [] [] (w1.alloc (Obj.cells #[.slice none 0 0, .slice none 0 0] 33))) := lp_new w1 d
  go_wp2_with fail
  generalize (w1.alloc (Obj.cells #[.slice none 0 0, .slice none 0 0] 33)) = X2 at *
  go_loopw [7, 8] (fun v7 vi wr => ∃ (i : Nat) (vc ve : Value) (ls : List (List V.In)) (L : List Int), vi = .int .i64 i ∧ i ≤ ts.length ∧ Lp w1 d i vc ve v7 ls L wr) (fun _ vi _ => ts.length - (intOf vi).toNat)
  case atStart => exact ⟨0, _, _, _, _, rfl, Nat.zero_le _, HN.out⟩
  case round =>
    obtain ⟨i, vc, ve, ls, L, rfl, hi2, hl⟩ := hrel
    obtain ⟨a7, c7, rfl⟩ := S.own_slice hl.own
    have HL : Hid (Lp w1 d i vc ve (.slice a7 L.length c7) ls L wr) := hl
    have HB : Hid (Below w1.heap.size w1 wr) := hl.be
    by_cases hlt : i < ts.length
    · have hi1 : (i : Int) < (ts.length : Int) := by omega
      have H8l : Hid (ls.length ≤ 8) := by have := hl.le; have := H8.out; unfold Hid; omega
      clear hl
      obtain ⟨tb, to', rfl, e1⟩ := M.strR_at (HS.out wr (HT1.out _ HB.out)) hlt
      have HPp : Hid (Calls Tryz.prog 6 #[.string ts[i]] wr fun e w' => Below wr.heap.size wr w' ∧ ParM (P.prs (P.lst ts[i])) e w') := parseM _ wr (HVa.out _ (HT1.out _ HB.out))
      generalize ts[i] = s at *
      generalize P.prs (P.lst s) = R at *
      obtain ⟨c, p⟩ | ⟨d0, rs⟩ := R
      · go_wp2_with (first | (go_at_call 6; refine HPp.out.mono ?_; rintro e w2 ⟨b2, hc0, rfl⟩; have hc1 : ((c : Int) == 0) = false := by { rw [beq_eq_false_iff_ne]; omega }; have hc2 : ((c : Int) != 0) = true := by { rw [bne, hc1]; rfl }; have hc3 : (c == 0) = false := by { rw [beq_eq_false_iff_ne]; omega }))
        go_roundw
        case rel => exact ⟨i + 1, vc, ve, ls, L, by go_num, hlt, (HL.out.over (b2.alloc b2.size _)).up⟩
        case measure => simp [intOf]; omega
      · go_upto_region 11 with (first | (go_at_call 6; refine HPp.out.mono ?_; rintro e w2 ⟨b2, v2, rl, -, rfl, r2, f2, g2⟩; obtain ⟨p2, c2, rfl⟩ : ∃ p c, v2 = .slice p rl.length c := by { obtain ⟨p, c, e, _⟩ := r2; exact ⟨p, c, e⟩ }))
        have HL2 : Hid (Lp w1 d i vc ve (.slice a7 L.length c7) ls L (w2.alloc (Obj.cells #[.int .i64 d0.k, .int .i64 d0.a, .slice p2 rl.length c2] 39))) := HL.out.over (b2.alloc b2.size _)
        have HR2 : Hid (M.RlR (w2.alloc (Obj.cells #[.int .i64 d0.k, .int .i64 d0.a, .slice p2 rl.length c2] 39)) (.slice p2 rl.length c2) rl) := r2.below (below_new _ _)
        have HX2 : Hid (V.Blk (w2.alloc (Obj.cells #[.int .i64 d0.k, .int .i64 d0.a, .slice p2 rl.length c2] 39)) w2.heap.size 39 [.int .i64 d0.k, .int .i64 d0.a, .slice p2 rl.length c2]) := V.blk_new w2 _ _
        have HC2 : Hid (Calls Tryz.prog 7 #[.agg #[.int .i64 d0.k, .int .i64 d0.a, .slice p2 rl.length c2]] (w2.alloc (Obj.cells #[.int .i64 d0.k, .int .i64 d0.a, .slice p2 rl.length c2] 39)) fun e w' => CmP _ d0.k d0.a rl e w') := compileP _ _ _ _ rl HR2.out f2 g2
        have HF2 : Hid (Fits rl) := g2
        have hxb : Hid (w1.heap.size < w2.heap.size) := Nat.lt_of_lt_of_le HL.out.st.blk.lt b2.size
        clear b2 r2 f2 g2 HPp e1 HL HB
        generalize (w2.alloc (Obj.cells #[.int .i64 d0.k, .int .i64 d0.a, .slice p2 rl.length c2] 39)) = X3 at *
        generalize w2.heap.size = xb at *
        generalize (d0.k : Int) = rk at *
        generalize (d0.a : Int) = ra at *
        have q0 := HX2.out.cell 0
        have q1 := HX2.out.cell 1
        have q2 := HX2.out.cell 2
        simp only [List.getElem?_cons_zero, List.getElem?_cons_succ] at q0 q1 q2
        go_upto_region 12 with (first | (go_at_call 7; refine HC2.out.mono ?_; rintro e w3 ⟨v3, er, rfl, b3, hcase⟩))
        have HL3 : Hid (Lp w1 d i vc ve (.slice a7 L.length c7) ls L w3) := HL2.out.over b3
        have HR3 : Hid (M.RlR w3 (.slice p2 rl.length c2) rl) := HR2.out.below b3
        have HX3 : Hid (V.Blk w3 xb 39 [.int .i64 rk, .int .i64 ra, .slice p2 rl.length c2]) := HX2.out.over b3
        clear b3 HL2 HR2 HX2 HC2 q0 q1 q2
        rcases hcase with her | ⟨rfl, h0, hR, p, fl, pg⟩
        · have hc1 : (er == 0) = false := by rw [beq_eq_false_iff_ne]; exact her
          have hc2 : (er != 0) = true := by rw [bne, hc1]; rfl
          go_wp2_with fail
          go_roundw
          case rel => exact ⟨i + 1, vc, ve, ls, L, by go_num, hlt, HL3.out.up⟩
          case measure => simp [intOf]; omega
        · obtain ⟨a3, c3, rfl⟩ : ∃ a c, v3 = .slice a p.length c := by obtain ⟨a, c, e, _⟩ := fl; exact ⟨a, c, e⟩
          have HAt : Hid (Calls Tryz.prog 8 #[.pointer (some ⟨w1.heap.size, 0, none⟩), .slice a3 p.length c3] w3 fun e Y => S.AttT w3 w1.heap.size vc ve ls p e Y) := S.attach_any w3 w1.heap.size vc ve _ ls p HL3.out.st HL3.out.ok fl
          have HPg : Hid (Pgm rk ra (rl.map M.Xr.r) p) := pg
          have HCk : Hid ((M.checkP rk ra (rl.map M.Xr.r)).1 = 0 ∧ Rok rl) := ⟨h0, hR⟩
          clear fl pg h0 hR
          rcases att_or HPg.out.chk H8l.out with e0 | ⟨e16, hcost⟩
          · have HE0 : Hid (S.attE ls p = 0) := e0
            clear e0
            go_upto_region 15 with (first | (go_at_call 8; refine HAt.out.mono ?_; rintro e w4 h4; obtain ⟨rfl, g4, vc4, ve4, s4⟩ := h4.yes HE0.out))
            have HB4 : Hid (Below w1.heap.size w1 w4) := HL3.out.be.trans (S.grown_below g4 (Nat.le_refl _) HL3.out.be.size)
            have HS4 : Hid (S.StkV w4 w1.heap.size vc4 ve4 (ls ++ [p])) := s4
            have HOk4 : Hid (S.OkS (ls ++ [p])) := S.okS_att HL3.out.ok HPg.out.ok HE0.out
            have HO4 : Hid (w4.ownsRow w1.heap.size 23 1 (.slice a7 L.length c7) L.length (S.cellsZ L)) := HL3.out.own.kept g4 (S.row_ne (by decide) HL3.out.own HL3.out.st.blk)
            have HX4 : Hid (V.Blk w4 xb 39 [.int .i64 rk, .int .i64 ra, .slice p2 rl.length c2]) := S.blk_grown HX3.out g4 (by have := hxb.out; simp; omega)
            have HR4 : Hid (M.RlR w4 (.slice p2 rl.length c2) rl) := rlR_kept HL3.out.st g4 HR3.out
            have HAn : Hid (S.ansL (ls ++ [p]) (toV d) = A.valZ (M.decA d rk ra (rl.map M.Xr.r)).1 (M.decA d rk ra (rl.map M.Xr.r)).2 :: L) := by
              show S.ansL (ls ++ [p]) (toV d) = _
              rw [S.ansL_snoc, HPg.out.ans d HD.out, mean_dec d rk ra _ HCk.out.1, HL3.out.an]
            have HLe : Hid (ls.length ≤ i ∧ L.length ≤ 8) := ⟨HL3.out.le, by have h1 := HL3.out.an; have h2 := H8l.out; rw [h1, S.ansL_len]; exact h2⟩
            have HDd : Hid (Calls Tryz.prog 10 #[.agg #[.int .i64 rk, .int .i64 ra, .slice p2 rl.length c2], .agg #[.int .u32 dn, d1v, d2v, d3v, d4v, d5v, d6v, d7v, d8v]] w4 fun e w' => e = .returned (.tuple #[.agg #[.int .i64 (M.decA d rk ra (rl.map M.Xr.r)).1, .int .i64 (M.decA d rk ra (rl.map M.Xr.r)).2], .int .i64 0]) ∧ Below w4.heap.size w4 w') := HDe.out w4 rk ra _ rl HR4.out HCk.out.2 HCk.out.1
            have HVl : Hid (∀ W, Calls Tryz.prog 11 #[.agg #[.int .i64 (M.decA d rk ra (rl.map M.Xr.r)).1, .int .i64 (M.decA d rk ra (rl.map M.Xr.r)).2]] W fun e w' => e = .returned (.tuple #[.int .u32 (A.valZ (M.decA d rk ra (rl.map M.Xr.r)).1 (M.decA d rk ra (rl.map M.Xr.r)).2), .int .i64 0]) ∧ Below W.heap.size W w') := val_ok (dec_right d rk ra rl HCk.out.1 HF2.out)
            clear h4 g4 s4 HL3 HX3 HR3 HPg HAt HE0
            generalize M.decA d rk ra (rl.map M.Xr.r) = da at *
            obtain ⟨xk, xa⟩ := da
            dsimp only at *
            generalize A.valZ xk xa = av at *
            have q0 := HX4.out.cell 0
            have q1 := HX4.out.cell 1
            have q2 := HX4.out.cell 2
            have hKd4 := HK1.out w4 HB4.out
            have n0 := hKd4.cell 0
            have n1 := hKd4.cell 1
            have n2 := hKd4.cell 2
            have n3 := hKd4.cell 3
            have n4 := hKd4.cell 4
            have n5 := hKd4.cell 5
            have n6 := hKd4.cell 6
            have n7 := hKd4.cell 7
            have n8 := hKd4.cell 8
            simp only [List.getElem?_cons_zero, List.getElem?_cons_succ] at q0 q1 q2 n0 n1 n2 n3 n4 n5 n6 n7 n8
            clear hKd4
            go_upto_region 16 with (first | (go_at_call 10; refine HDd.out.mono ?_; rintro e w5 ⟨rfl, b5⟩))
            have B5 : Hid (Below w4.heap.size w4 (w5.alloc (Obj.cells #[.int .i64 xk, .int .i64 xa] 36))) := b5.alloc b5.size _
            clear n0 n1 n2 n3 n4 n5 n6 n7 n8 q0 q1 q2 b5
            go_upto_region 19 with (first | (go_at_call 11; refine (HVl.out _).mono ?_; rintro e w6 ⟨rfl, b6⟩))
            have B6 : Hid (Below w4.heap.size w4 (w6.alloc (Obj.cells #[.int .u32 av] 23))) := (B5.out.trans (b6.mono B5.out.size)).alloc (B5.out.trans (b6.mono B5.out.size)).size _
            have HO6 := own_nums (S.own_over HO4.out B6.out)
            have HN6 : Hid (A.Ns .u32 (w6.alloc (Obj.cells #[.int .u32 av] 23)) a7 L.length L) := HO6.1
            have HZ6 : Hid (a7 = none → c7 = 0) := HO6.2.2
            have hbs : Hid (w1.heap.size ≤ w6.heap.size) := Nat.le_trans HB4.out.size (B5.out.trans (b6.mono B5.out.size)).size
            have HF6 : Hid ((w6.alloc (Obj.cells #[.int .u32 av] 23)).ownsRow w1.heap.size 23 1 (.slice (some ⟨w6.heap.size, 0, none⟩) 1 1) 1 (A.cellsU [av])) := M.owns_new (w := w6) 23 [.int .u32 av] hbs.out (by simp) (by simp)
            have hL8 : Hid (1 + L.length ≤ 1000000000) := by have := HLe.out.2; unfold Hid; omega
            have hbs7 : Hid (w1.heap.size ≤ (w6.alloc (Obj.cells #[.int .u32 av] 23)).heap.size) := Nat.le_trans hbs.out (below_new _ _).size
            clear HO6 b6
            go_wp2_with (first | (at_builtin; refine A.append_nums rfl _ _ rfl w1.heap.size _ 1 [av] rfl HF6.out a7 L.length c7 L rfl HZ6.out HN6.out hL8.out hbs7.out ?_; intro v' w7 ho7 g7; go_frame))
            go_roundw
            case rel =>
              have e1 : 1 + L.length = (av :: L).length := by rw [List.length_cons]; omega
              have e2 : A.cellsU ([av] ++ L) = S.cellsZ (av :: L) := rfl
              rw [e1, e2] at ho7
              refine ⟨i + 1, vc4, ve4, ls ++ [p], av :: L, by go_num, hlt, ⟨?_, HOk4.out, ?_, HAn.out.symm, ho7, ?_⟩⟩
              · exact (HS4.out.over B6.out).row HF6.out (by decide) (by decide) (by decide) g7
              · have := HLe.out.1
                rw [List.length_append, List.length_singleton]
                omega
              · exact (HB4.out.trans (B6.out.mono HB4.out.size)).grown g7 hbs7.out (V.owns_block HF6.out)
            case measure => simp [intOf]; omega
          · have HCs : Hid (32768 < S.costL ls + (p.length + 4)) := hcost
            have HE16 : Hid (S.attE ls p = 16) := e16
            clear e16 hcost
            go_upto_region 14 with (first | (go_at_call 8; refine HAt.out.mono ?_; rintro e w4 h4; obtain ⟨rfl, g4, s4⟩ := h4.no HE16.out))
            have HB4 : Hid (Below w1.heap.size w1 w4) := HL3.out.be.trans (S.grown_below g4 (Nat.le_refl _) HL3.out.be.size)
            have hcf : ls.flatten.length + 4 * ls.length ≤ 32768 := by have := HL3.out.ok.2.2; rw [S.cost_flat] at this; exact this
            have HCo : Hid (Calls Tryz.prog 9 #[.pointer (some ⟨w1.heap.size, 0, none⟩)] w4 fun e w' => e = .returned (.int .i64 (S.costL ls : Nat)) ∧ Below w4.heap.size w4 w') := S.cost_any w4 w1.heap.size vc ve ls s4 (by omega) (by have := H8l.out; omega)
            have hcl : S.costL ls ≤ 32768 := HL3.out.ok.2.2
            have hpl := HPg.out.len
            have hgt := HCs.out
            clear h4 g4 s4 hcf HL3 HX3 HR3 HPg HAt HE16 HCk HCs
            generalize S.costL ls = cl at *
            generalize p.length = pl at *
            have hgt1 : (32768 : Int) < (cl : Int) + (pl : Int) + 4 := by omega
            go_wp2_with (first | (go_at_call 9; refine HCo.out.mono ?_; rintro e w5 ⟨rfl, b5⟩))
            go_ret
            exact ⟨rfl, HT1.out _ (HB4.out.trans (b5.mono HB4.out.size))⟩
    · have hi1 : ¬ (i : Int) < (ts.length : Int) := by omega
      have H8l : Hid (ls.length ≤ 8) := by have := hl.le; have := H8.out; unfold Hid; omega
      have hLl : L.length = ls.length := by rw [hl.an, S.ansL_len]
      have HRu2 : Hid (Calls Tryz.prog 12 #[.pointer (some ⟨w1.heap.size, 0, none⟩), .agg #[.int .u32 dn, d1v, d2v, d3v, d4v, d5v, d6v, d7v, d8v]] wr fun e w' => e = .returned (.tuple #[.int .u32 (A.most L), .int .i64 (S.plN L)]) ∧ Below wr.heap.size wr w') := by
        have := HRu.out wr w1.heap.size vc ve ls hl.st hl.ok
        rw [← hl.an] at this
        exact this
      have HMo : Hid (∀ W, Below wr.heap.size wr W → Calls Tryz.prog 13 #[.slice a7 L.length c7] W fun e w' => e = .returned (.int .u32 (A.most L)) ∧ Below wr.heap.size wr w') := fun W hW => by
        obtain ⟨h1, h2, _⟩ := own_nums (S.own_over hl.own hW)
        exact (A.most_any a7 L.length c7 L W (by rw [hl.an]; exact S.ansL_u hl.ok HD.out) (by have := H8l.out; unfold maxLen; omega) h2 h1).mono fun e w' ⟨x1, x2⟩ => ⟨x1, hW.trans (x2.mono hW.size)⟩
      have HLn : Hid (∀ W, Below wr.heap.size wr W → Calls Tryz.prog 14 #[.pointer (some ⟨w1.heap.size, 0, none⟩)] W fun e w' => e = .returned (.int .i64 (L.length : Nat)) ∧ w' = W) := fun W hW => by
        rw [hLl]
        exact S.len_any W w1.heap.size vc ve ls (hl.st.over hW)
      have HTe : Hid (∀ W, Below wr.heap.size wr W → Below w.heap.size w W) := fun W hW => HT1.out W (HB.out.trans (hW.mono HB.out.size))
      have hKd4 := HK1.out wr HB.out
      have n0 := hKd4.cell 0
      have n1 := hKd4.cell 1
      have n2 := hKd4.cell 2
      have n3 := hKd4.cell 3
      have n4 := hKd4.cell 4
      have n5 := hKd4.cell 5
      have n6 := hKd4.cell 6
      have n7 := hKd4.cell 7
      have n8 := hKd4.cell 8
      simp only [List.getElem?_cons_zero, List.getElem?_cons_succ] at n0 n1 n2 n3 n4 n5 n6 n7 n8
      clear hKd4 hl hLl
      generalize A.most L = mo at *
      generalize S.plN L = pn at *
      have hmo : (mo == mo) = true := by simp
      go_wp2_with (first | (go_at_call 12; refine HRu2.out.mono ?_; rintro e w4 ⟨rfl, b4⟩) | (go_at_call 13; refine (HMo.out _ b4).mono ?_; rintro e w5 ⟨rfl, b5⟩) | (go_at_call 14; refine (HLn.out _ b5).mono ?_; rintro e w6 ⟨rfl, rfl⟩))
      go_ret
      exact ⟨rfl, HTe.out _ b5⟩

end Go.Proofs.YtcckipimfgmmdaaGreatDoor
