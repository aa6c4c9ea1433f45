/-
  A call of which no rule speaks: the law's walk.
-/
import Derived.Test.YtimclfdecdappaaMeanDecidesWalk
import Derived.Test.YtimclfdecdappaaNumb
namespace Go.Proofs.Ytimclfdecdappaa
open Go.RowKit

theorem nums_len (ns : List ByteArray) : (nums ns).length ≤ ns.length := by
  unfold nums
  rw [List.length_map]
  exact List.length_filter_le _ _
theorem numsR_len : ∀ l : List Xr, (∀ x ∈ l, x.r.names.length ≤ 40) → (numsR l).length ≤ l.length * 40
  | [], _ => Nat.zero_le _
  | x :: l, h => by
    have h1 := numsR_len l fun y hy => h y (List.mem_cons_of_mem _ hy)
    have h2 := nums_len x.r.names
    have h3 := h x (List.mem_cons_self ..)
    have e : numsR (x :: l) = nums x.r.names ++ numsR l := rfl
    rw [e, List.length_append, List.length_cons]
    omega
theorem numsR_lt {l : List Xr} (h : Lt l) : (numsR l).length ≤ 9000000 := by
  have h1 := numsR_len l fun x hx => (h.2 x hx).1
  have h2 := h.1
  omega
theorem mem_nums {z : Int} {ns : List ByteArray} (h : namedN z ns = true) : z ∈ nums ns := by
  unfold namedN at h
  obtain ⟨s, hs, h1⟩ := List.any_eq_true.1 h
  rw [Bool.and_eq_true] at h1
  unfold nums
  exact List.mem_map.2 ⟨s, List.mem_filter.2 ⟨hs, h1.1⟩, by simpa using h1.2⟩
theorem else_verdF {d : Da} {k a : Int} (hn : isNr d.n = true) : ∀ l : List Xr, d.n ∉ numsR l → verdF d k a (l.map Xr.r) = (k, a)
  | [], _ => rfl
  | x :: l, h => by
    have e : numsR (x :: l) = nums x.r.names ++ numsR l := rfl
    rw [e, List.mem_append, not_or] at h
    show (if meetB d x.r = true then _ else verdF d k a (l.map Xr.r)) = _
    rw [if_neg, else_verdF hn l h.2]
    intro hm
    unfold meetB at hm
    rw [Bool.and_eq_true] at hm
    refine h.1 (mem_nums ?_)
    rw [← named_eq, hn, hm.1]
    rfl
theorem else_verd {d : Da} {k a : Int} {l : List Xr} (h : d.n ∉ numsR l) : verdP d k a (l.map Xr.r) = (k, a) := by
  unfold verdP
  split
  · exact else_verdF (by assumption) l h
  · rfl

set_option maxRecDepth 8000 in
set_option maxHeartbeats 2000000 in
theorem else_walk (w : World) (k a : Int) (v : Value) (l : List Xr) (d : Da) (h : RlR w v l) (hd : d.ok) :
    Calls Try.prog 8 #[.agg #[.int .i64 k, .int .i64 a, v], .agg d.cells.toArray] w fun e w' => e = .returned (.bool true) ∧ Below w.heap.size w w' := by
  obtain ⟨p1, c1, rfl⟩ : ∃ p c, v = .slice p l.length c := by obtain ⟨p, c, e, _⟩ := h; exact ⟨p, c, e⟩
  have hsz : (Try.prog.info? 41).map (·.size) = some d.cells.toArray.size := d.size hd
  have h3 := two_xd w #[.int .i64 k, .int .i64 a, .slice p1 l.length c1] d.cells
  have HA : Hid (∀ W, Calls Try.prog 9 #[] W fun e w' => e = .returned (.bool true) ∧ Below W.heap.size W w') := awake_any
  have HL : Hid (∀ W, RlR W (.slice p1 l.length c1) l → Calls Try.prog 14 #[.agg #[.int .i64 k, .int .i64 a, .slice p1 l.length c1]] W fun e w' => LightR W l e w') := fun W h => light_any W k a _ l h
  have H1 : Hid (Lt l → ∀ W, RlR W (.slice p1 l.length c1) l → Calls Try.prog 17 #[.agg #[.int .i64 k, .int .i64 a, .slice p1 l.length c1], .agg d.cells.toArray] W fun e w' => e = .returned (decV (decA d k a (l.map Xr.r)) (decE k a (l.map Xr.r))) ∧ Below W.heap.size W w') := fun hL W h => decide_any W k a _ l d h (lt_sml hL).1 (sml_small (lt_sml hL)) hd
  have H2 : Hid (Lt l → ∀ W, RlR W (.slice p1 l.length c1) l → Calls Try.prog 15 #[.agg #[.int .i64 k, .int .i64 a, .slice p1 l.length c1]] W fun e w' => e = .returned (.tuple #[.int .i64 (checkP k a (l.map Xr.r)).1, .int .i64 (checkP k a (l.map Xr.r)).2]) ∧ Below W.heap.size W w') := fun hL W h => check_any W k a _ l h (lt_sml hL).1 (sml_small (lt_sml hL))
  have H3 : Hid (Lt l → ∀ W, RlR W (.slice p1 l.length c1) l → Calls Try.prog 20 #[.agg #[.int .i64 k, .int .i64 a, .slice p1 l.length c1]] W fun e w' => NmbR W l e w') := fun hL W h => numbers_any W k a _ l h (lt_sml hL).1 (fun x hx => (sml_small (lt_sml hL) x hx).1) (numsR_lt hL)
  have hA1 : d.cells[1]? = some (.int .u32 d.a) := rfl
  have hA0 : d.cells[0]? = some (.int .u32 d.n) := rfl
  have HE0 : Hid (decE k a (l.map Xr.r) ≠ 0 → decA d k a (l.map Xr.r) = (0, 0)) := fun h => by
    show (if (checkP k a (l.map Xr.r)).1 = 0 then _ else (0, 0)) = _
    rw [if_neg (show ¬ (checkP k a (l.map Xr.r)).1 = 0 from h)]
  have HE1 : Hid (decE k a (l.map Xr.r) = 0 → d.a ≠ 3221225534 → decA d k a (l.map Xr.r) = (1, 0)) := fun h h2 => by
    show (if (checkP k a (l.map Xr.r)).1 = 0 then (if d.a = 3221225534 then _ else (1, 0)) else (0, 0)) = _
    rw [if_pos (show (checkP k a (l.map Xr.r)).1 = 0 from h), if_neg h2]
  have HE2 : Hid (decE k a (l.map Xr.r) = 0 → d.a = 3221225534 → d.n ∉ numsR l → decA d k a (l.map Xr.r) = (k, a)) := fun h h2 h3 => by
    show (if (checkP k a (l.map Xr.r)).1 = 0 then (if d.a = 3221225534 then verdP d k a (l.map Xr.r) else (1, 0)) else (0, 0)) = _
    rw [if_pos (show (checkP k a (l.map Xr.r)).1 = 0 from h), if_pos h2, else_verd h3]
  have HEC : Hid ((checkP k a (l.map Xr.r)).1 = decE k a (l.map Xr.r)) := rfl
  generalize (checkP k a (l.map Xr.r)) = RC at *
  obtain ⟨rc1, rc2⟩ := RC
  dsimp only at H2 HEC
  generalize d.cells = A at *
  have BE : Hid (Below w.heap.size w ((w.alloc (Obj.cells #[.int .i64 k, .int .i64 a, .slice p1 l.length c1] 33)).alloc (Obj.cells A.toArray 41))) := h3.2.2
  have KD : Hid (Blk ((w.alloc (Obj.cells #[.int .i64 k, .int .i64 a, .slice p1 l.length c1] 33)).alloc (Obj.cells A.toArray 41)) (w.heap.size + 1) 41 A) := h3.2.1
  have HK : Hid (Blk ((w.alloc (Obj.cells #[.int .i64 k, .int .i64 a, .slice p1 l.length c1] 33)).alloc (Obj.cells A.toArray 41)) w.heap.size 33 [.int .i64 k, .int .i64 a, .slice p1 l.length c1]) := h3.1
  have SN : Hid (RlR ((w.alloc (Obj.cells #[.int .i64 k, .int .i64 a, .slice p1 l.length c1] 33)).alloc (Obj.cells A.toArray 41)) (.slice p1 l.length c1) l) := h.below h3.2.2
  clear h h3 hd
  generalize decA d k a (l.map Xr.r) = RA at *
  generalize decE k a (l.map Xr.r) = re at *
  obtain ⟨r1, r2⟩ := RA
  obtain rfl : rc1 = re := HEC.out
  clear HEC
  unfold decV actV at H1
  dsimp only at H1
  go_enter Try.func8, Try.ntmps8
  go_wp2_with fail
  generalize ((w.alloc (Obj.cells #[.int .i64 k, .int .i64 a, .slice p1 l.length c1] 33)).alloc (Obj.cells A.toArray 41)) = X at *
  refine (HA.out _).mono ?_
  rintro e w1 ⟨rfl, b1⟩
  have t0 : w1.cell? ⟨w.heap.size, 0, none⟩ = some (.int .i64 k) := (HK.out.over b1).cell 0
  have t1 : w1.cell? ⟨w.heap.size, 1, none⟩ = some (.int .i64 a) := (HK.out.over b1).cell 1
  have t2 : w1.cell? ⟨w.heap.size, 2, none⟩ = some (.slice p1 l.length c1) := (HK.out.over b1).cell 2
  have K1 : Hid (Blk w1 w.heap.size 33 [.int .i64 k, .int .i64 a, .slice p1 l.length c1]) := HK.out.over b1
  have D1 : Hid (Blk w1 (w.heap.size + 1) 41 A) := KD.out.over b1
  have S1 : Hid (RlR w1 (.slice p1 l.length c1) l) := SN.out.below b1
  have B1 : Hid (Below w.heap.size w w1) := BE.out.trans (b1.mono BE.out.size)
  clear b1 BE HK SN KD
  go_wp2_with fail
  clear t0 t1 t2
  refine (HL.out _ S1.out).mono ?_
  rintro e w2 ⟨bb, rfl, b2, hbb⟩
  have HBB : Hid (bb = true → Lt l) := hbb
  have t0 : w2.cell? ⟨w.heap.size, 0, none⟩ = some (.int .i64 k) := (K1.out.over b2).cell 0
  have t1 : w2.cell? ⟨w.heap.size, 1, none⟩ = some (.int .i64 a) := (K1.out.over b2).cell 1
  have t2 : w2.cell? ⟨w.heap.size, 2, none⟩ = some (.slice p1 l.length c1) := (K1.out.over b2).cell 2
  have K2 : Hid (Blk w2 w.heap.size 33 [.int .i64 k, .int .i64 a, .slice p1 l.length c1]) := K1.out.over b2
  have D2 : Hid (Blk w2 (w.heap.size + 1) 41 A) := D1.out.over b2
  have S2 : Hid (RlR w2 (.slice p1 l.length c1) l) := S1.out.below b2
  have B2 : Hid (Below w.heap.size w w2) := B1.out.trans (b2.mono B1.out.size)
  clear b2 B1 K1 S1 hbb D1
  cases bb with
  | false =>
    go_wp2_with fail
    go_ret
    exact ⟨rfl, B2.out⟩
  | true =>
    have HLt : Hid (Lt l) := HBB.out rfl
    go_wp2_with (refine at_op (.load 41 (.tmp 3)) rfl ?_; refine wpList_load_row rfl 41 (.tmp 3) rfl (w.heap.size + 1) rfl 41 A.toArray (0, 0) _ D2.out Try.underlying41 rfl hsz ?_)
    clear t0 t1 t2
    refine (H1.out HLt.out _ S2.out).mono ?_
    rintro e w3 ⟨rfl, b3⟩
    have b3' : Below w2.heap.size w2 (w3.alloc (Obj.cells #[.int .i64 r1, .int .i64 r2] 30)) := b3.alloc b3.size _
    have K3 := K2.out.over b3'
    have t0 : (w3.alloc (Obj.cells #[.int .i64 r1, .int .i64 r2] 30)).cell? ⟨w.heap.size, 0, none⟩ = some (.int .i64 k) := (K3).cell 0
    have t1 : (w3.alloc (Obj.cells #[.int .i64 r1, .int .i64 r2] 30)).cell? ⟨w.heap.size, 1, none⟩ = some (.int .i64 a) := (K3).cell 1
    have t2 : (w3.alloc (Obj.cells #[.int .i64 r1, .int .i64 r2] 30)).cell? ⟨w.heap.size, 2, none⟩ = some (.slice p1 l.length c1) := (K3).cell 2
    have D3 : Hid (Blk (w3.alloc (Obj.cells #[.int .i64 r1, .int .i64 r2] 30)) (w.heap.size + 1) 41 A) := D2.out.over b3'
    have S3 : Hid (RlR (w3.alloc (Obj.cells #[.int .i64 r1, .int .i64 r2] 30)) (.slice p1 l.length c1) l) := S2.out.below b3'
    have B3 : Hid (Below w.heap.size w (w3.alloc (Obj.cells #[.int .i64 r1, .int .i64 r2] 30))) := B2.out.trans (b3'.mono B2.out.size)
    have KA : Hid (Blk (w3.alloc (Obj.cells #[.int .i64 r1, .int .i64 r2] 30)) w3.heap.size 30 [.int .i64 r1, .int .i64 r2]) := blk_new w3 _ _
    have K3h : Hid (Blk (w3.alloc (Obj.cells #[.int .i64 r1, .int .i64 r2] 30)) w.heap.size 33 [.int .i64 k, .int .i64 a, .slice p1 l.length c1]) := K3
    clear b3 b3' B2 S2 D2 K3
    have s0 : (w3.alloc (Obj.cells #[.int .i64 r1, .int .i64 r2] 30)).cell? ⟨w3.heap.size, 0, none⟩ = some (.int .i64 r1) := KA.out.cell 0
    have s1 : (w3.alloc (Obj.cells #[.int .i64 r1, .int .i64 r2] 30)).cell? ⟨w3.heap.size, 1, none⟩ = some (.int .i64 r2) := KA.out.cell 1
    have dn : (w3.alloc (Obj.cells #[.int .i64 r1, .int .i64 r2] 30)).cell? ⟨w.heap.size + 1, 1, none⟩ = some (.int .u32 d.a) := (D3.out.cell 1).trans hA1
    by_cases hre : rc1 = 0
    · subst hre
      by_cases hda : d.a = 3221225534
      · have hda1 : (d.a == 3221225534) = true := by simp [hda]
        have hda2 : (d.a != 3221225534) = false := by simp [hda]
        have HE : Hid (d.n ∉ numsR l → r1 = k ∧ r2 = a) := fun h => by have := HE2.out rfl hda h; cases this; exact ⟨rfl, rfl⟩
        clear HE0 HE1 HE2 hda
        go_wp2_with fail
        clear t0 t1 t2 s0 s1 dn
        generalize (w3.alloc (Obj.cells #[.int .i64 r1, .int .i64 r2] 30)) = Y at *
        refine (H3.out HLt.out _ S3.out).mono ?_
        rintro e w4 ⟨v4, ts, rfl, hz, hrise, hmem, b4⟩
        obtain ⟨p5, c5, rfl, hc51, hc52, hz2⟩ := hz
        have HZ : Hid (∀ W, Below w4.heap.size w4 W → NzR W (.slice p5 ts.length c5) ts) := fun W hW => NzR.below ⟨p5, c5, rfl, hc51, hc52, hz2⟩ hW
        have HRs : Hid (Rise ts) := hrise
        have HOut : Hid ((∀ j (hj : j < ts.length), ts[j] ≠ d.n) → r1 = k ∧ r2 = a) := fun h => HE.out fun hm => by
          obtain ⟨j, hj, e⟩ := List.mem_iff_getElem.1 ((hmem _).2 hm)
          exact h j hj e
        have hmax : ts.length ≤ 9223372036854775807 := by omega
        have K4 : Hid (Blk w4 w.heap.size 33 [.int .i64 k, .int .i64 a, .slice p1 l.length c1]) := K3h.out.over b4
        have KA4 : Hid (Blk w4 w3.heap.size 30 [.int .i64 r1, .int .i64 r2]) := KA.out.over b4
        have D4 : Hid (Blk w4 (w.heap.size + 1) 41 A) := D3.out.over b4
        have B4 : Hid (Below w.heap.size w w4) := B3.out.trans (b4.mono B3.out.size)
        have HD0 : Hid (A[0]? = some (.int .u32 d.n)) := hA0
        clear b4 hz2 hc51 hc52 hrise hmem HE K3h KA D3 B3 S3 hA0 hA1 hda1 hda2
        go_wp2_with fail
        go_loopw [12] (fun vi wr => ∃ i : Nat, vi = .int .i64 i ∧ i ≤ ts.length ∧ (∀ j (hj : j < ts.length), j < i → ts[j] ≠ d.n) ∧ Below w4.heap.size w4 wr) (fun vi _ => ts.length - (intOf vi).toNat)
        case atStart => exact ⟨0, rfl, Nat.zero_le _, fun j _ h => absurd h (Nat.not_lt_zero _), Below.refl _ _⟩
        case round =>
          obtain ⟨i, rfl, hi, hno, hb⟩ := hrel
          have HNo : Hid (∀ j (hj : j < ts.length), j < i → ts[j] ≠ d.n) := hno
          have HB : Hid (Below w4.heap.size w4 wr) := hb
          clear hno hb
          by_cases hlt : i < ts.length
          · have hi1 : (i : Int) < (ts.length : Int) := by omega
            obtain ⟨b5, o5, rfl⟩ : ∃ b o, p5 = some ⟨b, o, none⟩ := by
              obtain ⟨_, _, e, _, _, hc⟩ := HZ.out w4 (Below.refl _ _)
              cases e
              obtain ⟨b, o, e, _⟩ := hc (by omega)
              exact ⟨b, o, e⟩
            obtain ⟨x1, HX1⟩ : ∃ x, Hid (ts[i] = x) := ⟨ts[i], (rfl : ts[i] = ts[i])⟩
            have HCl : Hid (∀ W, Below w4.heap.size w4 W → W.cell? ⟨b5, o5 + i, none⟩ = some (.int .u32 x1) ∧ W.cell? ⟨w.heap.size + 1, 0, none⟩ = some (.int .u32 d.n)) := fun W hW => by
              obtain ⟨_, _, e, _, _, hc⟩ := HZ.out W hW
              cases e
              obtain ⟨b, o, e, hc⟩ := hc (by omega)
              cases e
              exact ⟨hc i x1 (by rw [List.getElem?_eq_getElem hlt, HX1.out]), ((D4.out.over hW).cell 0).trans HD0.out⟩
            have HStep : Hid (x1 ≠ d.n → ∀ j (hj : j < ts.length), j < i + 1 → ts[j] ≠ d.n) := fun hne j hj hji => by
              by_cases e : j = i
              · subst e
                rw [HX1.out]; exact hne
              · exact HNo.out j hj (by omega)
            rcases Nat.eq_zero_or_pos i with h0 | h0
            · have l0 : decide ((0 : Int) < (i : Int)) = false := decide_eq_false (by omega)
              have l2 : decide (0 < i) = false := decide_eq_false (by omega)
              have l1 : ¬ (0 : Int) < (i : Int) := by omega
              clear h0
              go_wp2_with fail
              go_quiet (fail)
              go_wp2_with fail
              have hbq : Below w4.heap.size w4 (wr.drewN nq) := HB.out.trans ((below_drewN wr nq).mono HB.out.size)
              have HBq : Hid (Below w4.heap.size w4 (wr.drewN nq)) := hbq
              clear hbq 
              generalize wr.drewN nq = wq at *
              have k1 : wq.cell? ⟨b5, o5 + i, none⟩ = some (.int .u32 x1) := (HCl.out wq HBq.out).1
              have k2 : wq.cell? ⟨w.heap.size + 1, 0, none⟩ = some (.int .u32 d.n) := (HCl.out wq HBq.out).2
              have HBD : Hid (∀ m, Below w4.heap.size w4 (wq.drewN m)) := fun m => HBq.out.trans ((below_drewN wq m).mono HBq.out.size)
              rcases Bool.eq_false_or_eq_true (x1 == d.n) with hx | hx
              · have hx2 : x1 = d.n := by simpa using hx
                clear hx2
                go_quiet (fail)
                go_wp2_with fail
                go_ret
                exact ⟨rfl, B4.out.trans ((HBD.out _).mono B4.out.size)⟩
              · have hx2 : x1 ≠ d.n := by simpa using hx
                go_quiet (fail)
                go_wp2_with fail
                go_roundw
                case rel => exact ⟨i + 1, by go_num, hlt, HStep.out hx2, HBD.out _⟩
                case measure => simp [intOf] <;> omega
            · have l0 : decide ((0 : Int) < (i : Int)) = true := decide_eq_true (by omega)
              have l2 : decide (0 < i) = true := decide_eq_true (by omega)
              have l1 : (0 : Int) < (i : Int) := by omega
              have hi0 : i - 1 < ts.length := by omega
              obtain ⟨x0, HX0⟩ : ∃ x, Hid (ts[i - 1] = x) := ⟨ts[i - 1], (rfl : ts[i - 1] = ts[i - 1])⟩
              have hc0 : wr.cell? ⟨b5, o5 + (i - 1), none⟩ = some (.int .u32 x0) := by
                obtain ⟨_, _, e, _, _, hc⟩ := HZ.out wr HB.out
                cases e
                obtain ⟨b, o, e, hc⟩ := hc (by omega)
                cases e
                exact hc (i - 1) x0 (by rw [List.getElem?_eq_getElem hi0, HX0.out])
              have hc1 : wr.cell? ⟨b5, o5 + i, none⟩ = some (.int .u32 x1) := (HCl.out wr HB.out).1
              have hx01 : x0 < x1 := by
                have := List.pairwise_iff_getElem.1 HRs.out (i - 1) i hi0 hlt (by omega)
                rw [HX0.out, HX1.out] at this
                exact this
              have hle1 : ¬ x1 ≤ x0 := by omega
              have hle2 : decide (x1 ≤ x0) = false := decide_eq_false hle1
              have bi : (i : Int) - 1 < (ts.length : Int) := by omega
              go_wp2_with fail
              go_quiet (fail)
              go_wp2_with fail
              have hbq : Below w4.heap.size w4 (wr.drewN nq) := HB.out.trans ((below_drewN wr nq).mono HB.out.size)
              have HBq : Hid (Below w4.heap.size w4 (wr.drewN nq)) := hbq
              clear hbq hc0 hc1
              generalize wr.drewN nq = wq at *
              have k1 : wq.cell? ⟨b5, o5 + i, none⟩ = some (.int .u32 x1) := (HCl.out wq HBq.out).1
              have k2 : wq.cell? ⟨w.heap.size + 1, 0, none⟩ = some (.int .u32 d.n) := (HCl.out wq HBq.out).2
              have HBD : Hid (∀ m, Below w4.heap.size w4 (wq.drewN m)) := fun m => HBq.out.trans ((below_drewN wq m).mono HBq.out.size)
              rcases Bool.eq_false_or_eq_true (x1 == d.n) with hx | hx
              · have hx2 : x1 = d.n := by simpa using hx
                clear hx2
                go_quiet (fail)
                go_wp2_with fail
                go_ret
                exact ⟨rfl, B4.out.trans ((HBD.out _).mono B4.out.size)⟩
              · have hx2 : x1 ≠ d.n := by simpa using hx
                go_quiet (fail)
                go_wp2_with fail
                go_roundw
                case rel => exact ⟨i + 1, by go_num, hlt, HStep.out hx2, HBD.out _⟩
                case measure => simp [intOf] <;> omega
          · have hi1 : ¬ (i : Int) < (ts.length : Int) := by omega
            obtain ⟨rfl, rfl⟩ : r1 = k ∧ r2 = a := HOut.out fun j hj => HNo.out j hj (by omega)
            have u0 : wr.cell? ⟨w3.heap.size, 0, none⟩ = some (.int .i64 r1) := (KA4.out.over HB.out).cell 0
            have u1' : wr.cell? ⟨w3.heap.size, 1, none⟩ = some (.int .i64 r2) := (KA4.out.over HB.out).cell 1
            have y0 : wr.cell? ⟨w.heap.size, 0, none⟩ = some (.int .i64 r1) := (K4.out.over HB.out).cell 0
            have y1 : wr.cell? ⟨w.heap.size, 1, none⟩ = some (.int .i64 r2) := (K4.out.over HB.out).cell 1
            have hq : ∀ W : World, (Op.equalIn 10000 30 (.agg #[.int .i64 r1, .int .i64 r2]) (.agg #[.int .i64 r1, .int .i64 r2])).run Try.prog W = .ok true W := fun W => by rw [equalIn_act, sameA_self]
            go_wp2_with fail
            go_ret
            exact ⟨rfl, B4.out.trans (HB.out.mono B4.out.size)⟩
      · have hda1 : (d.a == 3221225534) = false := by simp [hda]
        obtain ⟨rfl, rfl⟩ : r1 = 1 ∧ r2 = 0 := by have := HE1.out rfl hda; cases this; exact ⟨rfl, rfl⟩
        have hq : ∀ W : World, (Op.equalIn 10000 30 (.agg #[.int .i64 1, .int .i64 0]) (.agg #[.int .i64 1, .int .i64 0])).run Try.prog W = .ok true W := fun W => by rw [equalIn_act, sameA_self]
        clear HE0 HE1 HE2
        go_wp2_with fail
        go_ret
        exact ⟨rfl, B3.out⟩
    · have hre1 : (rc1 == 0) = false := by simp [hre]
      obtain ⟨rfl, rfl⟩ : r1 = 0 ∧ r2 = 0 := by have := HE0.out hre; cases this; exact ⟨rfl, rfl⟩
      clear HE0 HE1 HE2
      go_wp2_with fail
      clear t0 t1 t2 s0 s1 dn
      generalize (w3.alloc (Obj.cells #[.int .i64 0, .int .i64 0] 30)) = Y at *
      refine (H2.out HLt.out _ S3.out).mono ?_
      rintro e w4 ⟨rfl, b4⟩
      have u0 : w4.cell? ⟨w3.heap.size, 0, none⟩ = some (.int .i64 0) := (KA.out.over b4).cell 0
      have u1 : w4.cell? ⟨w3.heap.size, 1, none⟩ = some (.int .i64 0) := (KA.out.over b4).cell 1
      have hq : ∀ W : World, (Op.equalIn 10000 30 (.agg #[.int .i64 0, .int .i64 0]) (.agg #[.int .i64 0, .int .i64 0])).run Try.prog W = .ok true W := fun W => by rw [equalIn_act, sameA_self]
      have B4 : Hid (Below w.heap.size w w4) := B3.out.trans (b4.mono B3.out.size)
      clear b4
      go_wp2_with fail
      go_ret
      exact ⟨rfl, B4.out⟩

end Go.Proofs.Ytimclfdecdappaa
