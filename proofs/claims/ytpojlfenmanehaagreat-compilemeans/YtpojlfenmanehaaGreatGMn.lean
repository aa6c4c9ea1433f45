/-
  The walk of a law.
-/
import Derived.Test.YtpojlfenmanehaaGreatGMo
import Derived.Test.YtpojlfenmanehaaGreatGW8
namespace Go.Proofs.YtpojlfenmanehaaGreat
open Go.RowKit

/-- a program, gone through by the document. -/
theorem runD_prog (d : M.Da) (hd : d.ok) (ns : List Int) (k a : Int) (rs : List M.Xr) (h : Nrs ns rs) (hR : Rok rs) (h4 : (progI ns k a (rs.map M.Xr.r)).length ≤ 4096) (W : World) (v : Value) (b : Nat) (ho : W.ownsRow b 78 4 v (progI ns k a (rs.map M.Xr.r)).length (V.cellsI (progI ns k a (rs.map M.Xr.r)))) :
    Calls Tryz.prog 15 #[v, .agg d.cells.toArray] W fun e w' => ∃ n : Nat, n ≤ 16 + mostR d.n (rs.map M.Xr.r) ∧ e = .returned (.tuple #[.int .u32 (meanZ d k a (rs.map M.Xr.r)), .int .i64 n, .int .i64 0]) ∧ Below W.heap.size W w' := by
  have hw : M.wgt rs ≤ 100000000 := by
    have h1 := sum_wg1 rs hR
    have h2 : M.wgt rs = 8 + (rs.map fun x => M.wg1 x.r).sum := rfl
    omega
  obtain ⟨e1, e2, e3⟩ := prog_ans d hd ns k a rs h hR.ok hw h4
  obtain ⟨aa, cap, rfl, hi⟩ := own_ins ho (prog_gd ns k a rs h hR.ok hw).ok
  refine (V.refRun_any aa _ cap _ (toV d) W (by unfold maxLen; omega) hi hd).mono ?_
  rintro e w' ⟨rfl, hb⟩
  exact ⟨_, e3, by rw [e1, e2], hb⟩

set_option maxRecDepth 8000 in
set_option maxHeartbeats 4000000 in
theorem means_walk (w : World) (k a : Int) (v : Value) (rs : List M.Xr) (d : M.Da) (h : M.RlR w v rs) (hf : Fits rs) (hd : d.ok) :
    Calls Tryz.prog 5 #[.agg #[.int .i64 k, .int .i64 a, v], .agg d.cells.toArray] w fun e w' => e = .returned (.bool true) ∧ Below w.heap.size w w' := by
  obtain ⟨p1, c1, rfl⟩ : ∃ p c, v = .slice p rs.length c := by obtain ⟨p, c, e, _⟩ := h; exact ⟨p, c, e⟩
  have HA : Hid (∀ W, Calls Tryz.prog 9 #[] W fun e w' => e = .returned (.bool true) ∧ Below W.heap.size W w') := awake_any
  have HL : Hid (∀ W, M.RlR W (.slice p1 rs.length c1) rs → Calls Tryz.prog 10 #[.agg #[.int .i64 k, .int .i64 a, .slice p1 rs.length c1]] W fun e w' => M.LightR W rs e w') := fun W h => M.light_any W k a _ rs h
  have HC : Hid (M.Lt rs → ∀ W, M.RlR W (.slice p1 rs.length c1) rs → Calls Tryz.prog 11 #[.agg #[.int .i64 k, .int .i64 a, .slice p1 rs.length c1]] W fun e w' => CmT W k a rs e w') := fun hL W hW => compile_any W k a _ rs hW hL hf
  have hsz : (Tryz.prog.info? 41).map (·.size) = some d.cells.toArray.size := d.size hd
  have HRn := fun ns (h1 : Nrs ns rs) (h2 : Rok rs) h4 W v b ho => runD_prog d hd ns k a rs h1 h2 h4 W v b ho
  have HAn := fun W (hW : M.RlR W (.slice p1 rs.length c1) rs) (hL : M.Lt rs) => answerD_any W k a _ rs d hW hL hd
  have HMo := fun W (hW : M.RlR W (.slice p1 rs.length c1) rs) (hL : M.Lt rs) => most_any W k a _ rs d hW hL hd
  have HMd : Hid ((M.checkP k a (rs.map M.Xr.r)).1 = 0 → meanZ d k a (rs.map M.Xr.r) = A.valZ (M.decA d k a (rs.map M.Xr.r)).1 (M.decA d k a (rs.map M.Xr.r)).2 ∧ mostR d.n (rs.map M.Xr.r) ≤ mostN d.n (rs.map M.Xr.r)) := fun h0 => ⟨mean_dec d k a _ h0, mostR_le d.n _ (known_check h0)⟩
  obtain ⟨d1v, d2v, d3v, d4v, d5v, d6v, d7v, d8v, hAA⟩ := M.nine_of d hd
  rw [hAA] at hsz HRn HAn HMo ⊢
  have HRn' : Hid _ := HRn
  have HAn' : Hid _ := HAn
  have HMo' : Hid _ := HMo
  have KD : Hid (V.Blk ((w.alloc (Obj.cells #[.int .i64 k, .int .i64 a, .slice p1 rs.length c1] 26)).alloc (Obj.cells #[.int .u32 d.n, d1v, d2v, d3v, d4v, d5v, d6v, d7v, d8v] 41)) (w.heap.size + 1) 41 [.int .u32 d.n, d1v, d2v, d3v, d4v, d5v, d6v, d7v, d8v]) := V.blk_new' w _ _ 41
  have KR : Hid (V.Blk ((w.alloc (Obj.cells #[.int .i64 k, .int .i64 a, .slice p1 rs.length c1] 26)).alloc (Obj.cells #[.int .u32 d.n, d1v, d2v, d3v, d4v, d5v, d6v, d7v, d8v] 41)) w.heap.size 26 [.int .i64 k, .int .i64 a, .slice p1 rs.length c1]) := (V.blk_new w _ 26).alloc _
  have BE : Hid (Below w.heap.size w ((w.alloc (Obj.cells #[.int .i64 k, .int .i64 a, .slice p1 rs.length c1] 26)).alloc (Obj.cells #[.int .u32 d.n, d1v, d2v, d3v, d4v, d5v, d6v, d7v, d8v] 41))) := below_two w _ _
  have SR : Hid (M.RlR w (.slice p1 rs.length c1) rs) := h
  clear h hf hd hAA HRn HAn HMo
  generalize hdn : d.n = dn at *
  unfold CmT at HC
  go_enter Tryz.func5, Tryz.ntmps5
  go_upto_region 1 with fail
  generalize ((w.alloc (Obj.cells #[.int .i64 k, .int .i64 a, .slice p1 rs.length c1] 26)).alloc (Obj.cells #[.int .u32 dn, d1v, d2v, d3v, d4v, d5v, d6v, d7v, d8v] 41)) = X at *
  have HX : Hid (∀ W, Below X.heap.size X W → W.cell? ⟨w.heap.size, 0, none⟩ = some (.int .i64 k) ∧ W.cell? ⟨w.heap.size, 1, none⟩ = some (.int .i64 a) ∧ W.cell? ⟨w.heap.size, 2, none⟩ = some (.slice p1 rs.length c1) ∧ M.RlR W (.slice p1 rs.length c1) rs ∧ Below w.heap.size w W ∧ V.Blk W (w.heap.size + 1) 41 [.int .u32 dn, d1v, d2v, d3v, d4v, d5v, d6v, d7v, d8v]) := fun W hW => ⟨(KR.out.over hW).cell 0, (KR.out.over hW).cell 1, (KR.out.over hW).cell 2, SR.out.below (BE.out.trans (hW.mono BE.out.size)), BE.out.trans (hW.mono BE.out.size), KD.out.over hW⟩
  clear KD KR SR
  go_upto_region 3 with (first
    | (go_at_call 9; refine (HA.out _).mono ?_; rintro e w1 ⟨rfl, b1⟩; obtain ⟨q0, q1, q2, r1, B1, -⟩ := HX.out _ b1)
    | (go_at_call 10; refine (HL.out _ r1).mono ?_; rintro e w2 ⟨bb, rfl, b2, hbb⟩; have X2 := b1.trans (b2.mono b1.size); obtain ⟨t0, t1, t2, r2, B2, -⟩ := HX.out _ X2))
  clear q0 q1 q2 r1 B1 b1 b2
  cases bb with
  | false =>
    go_wp2_with fail
    go_ret
    exact ⟨rfl, B2⟩
  | true =>
    have hLt : M.Lt rs := hbb rfl
    have HC2 : Hid _ := HC.out hLt
    clear HC HL HA hbb
    go_upto_region 6 with (first
      | (go_at_call 11; refine (HC2.out _ r2).mono ?_; rintro e w3 ⟨v3, er, rfl, b3, hcase⟩; have X3 := X2.trans (b3.mono X2.size); obtain ⟨s0, s1, s2, r3, B3, kd3⟩ := HX.out _ X3))
    clear t0 t1 t2 r2 B2 X2 b3 HC2
    rcases hcase with ⟨hp, rfl, rfl⟩ | ⟨h0, hR, ns, hn, ⟨hl, rfl, rfl⟩ | ⟨hl, rfl, ho⟩⟩
    · have hp' : ((M.checkP k a (rs.map M.Xr.r)).1 == 0) = false := by simpa using hp
      generalize (M.checkP k a (rs.map M.Xr.r)).1 = p at *
      go_wp2_with fail
      go_ret
      exact ⟨rfl, B3⟩
    · go_wp2_with fail
      go_ret
      exact ⟨rfl, B3⟩
    · obtain ⟨e1, e2⟩ := HMd.out h0
      have HR1 : Hid (Calls Tryz.prog 15 #[v3, .agg #[.int .u32 dn, d1v, d2v, d3v, d4v, d5v, d6v, d7v, d8v]] w3 fun e w' => ∃ n : Nat, n ≤ 16 + mostR dn (rs.map M.Xr.r) ∧ e = .returned (.tuple #[.int .u32 (meanZ d k a (rs.map M.Xr.r)), .int .i64 n, .int .i64 0]) ∧ Below w3.heap.size w3 w') := HRn'.out ns hn hR hl w3 v3 _ ho
      have HA1 : Hid (∀ W, M.RlR W (.slice p1 rs.length c1) rs → Calls Tryz.prog 16 #[.agg #[.int .i64 k, .int .i64 a, .slice p1 rs.length c1], .agg #[.int .u32 dn, d1v, d2v, d3v, d4v, d5v, d6v, d7v, d8v]] W fun e w' => e = .returned (.int .u32 (A.valZ (M.decA d k a (rs.map M.Xr.r)).1 (M.decA d k a (rs.map M.Xr.r)).2)) ∧ Below W.heap.size W w') := fun W hW => HAn'.out W hW hLt
      have HM1 : Hid (∀ W, M.RlR W (.slice p1 rs.length c1) rs → Calls Tryz.prog 17 #[.agg #[.int .i64 k, .int .i64 a, .slice p1 rs.length c1], .agg #[.int .u32 dn, d1v, d2v, d3v, d4v, d5v, d6v, d7v, d8v]] W fun e w' => e = .returned (.int .i64 (64 + mostN dn (rs.map M.Xr.r) : Nat)) ∧ Below W.heap.size W w') := fun W hW => HMo'.out W hW hLt
      obtain ⟨a3, q3, rfl⟩ := own_slice ho
      rw [e1] at HR1
      have HE2 : Hid (mostR dn (rs.map M.Xr.r) ≤ mostN dn (rs.map M.Xr.r)) := e2
      clear ho hn hR h0 HRn' HAn' HMo' HMd e1 e2 hLt hdn
      generalize A.valZ (M.decA d k a (rs.map M.Xr.r)).1 (M.decA d k a (rs.map M.Xr.r)).2 = av at *
      generalize (progI ns k a (rs.map M.Xr.r)).length = N1 at *
      generalize mostR dn (rs.map M.Xr.r) = mr at *
      generalize hMM : (64 + mostN dn (rs.map M.Xr.r)) = MM at *
      have HMM : Hid (64 + mostN dn (rs.map M.Xr.r) = MM) := hMM
      clear hMM
      have hav : (av == av) = true := by simp
      go_upto_region 9 with (first
        | (refine at_op (.load 41 (.tmp 3)) rfl ?_; refine wpList_load_row rfl 41 (.tmp 3) rfl (w.heap.size + 1) rfl 41 #[.int .u32 dn, d1v, d2v, d3v, d4v, d5v, d6v, d7v, d8v] (0, 0) _ kd3 Tryz.underlying41 rfl hsz ?_)
        | (go_at_call 15; refine HR1.out.mono ?_; rintro e w4 ⟨n4, hn4, rfl, b4⟩; have X4 := X3.trans (b4.mono X3.size); obtain ⟨y0, y1, y2, r4, B4, kd4⟩ := HX.out _ X4))
      have hnn : (n4 : Int) ≤ (MM : Int) := by have := HE2.out; have := HMM.out; omega
      have hnn2 : n4 ≤ MM := by have := HE2.out; have := HMM.out; omega
      clear s0 s1 s2 r3 B3 kd3 hn4
      go_wp2_with (first
        | (refine at_op (.load 41 (.tmp 3)) rfl ?_; refine M.wpList_load_rowG rfl 41 (.tmp 3) rfl (w.heap.size + 1) rfl 41 #[.int .u32 dn, d1v, d2v, d3v, d4v, d5v, d6v, d7v, d8v] (0, 0) _ kd4 Tryz.underlying41 rfl hsz ?_)
        | (refine at_op (.load 41 (.tmp 3)) rfl ?_; refine M.wpList_load_rowG rfl 41 (.tmp 3) rfl (w.heap.size + 1) rfl 41 #[.int .u32 dn, d1v, d2v, d3v, d4v, d5v, d6v, d7v, d8v] (0, 0) _ kd5 Tryz.underlying41 rfl hsz ?_)
        | (go_at_call 16; refine (HA1.out _ r4).mono ?_; rintro e w5 ⟨rfl, b5⟩; have X5 := X4.trans (b5.mono X4.size); obtain ⟨z0, z1, z2, r5, B5, kd5⟩ := HX.out _ X5)
        | (go_at_call 17; refine (HM1.out _ r5).mono ?_; rintro e w6 ⟨rfl, b6⟩))
      go_ret
      exact ⟨rfl, B5.trans (b6.mono B5.size)⟩

end Go.Proofs.YtpojlfenmanehaaGreat

