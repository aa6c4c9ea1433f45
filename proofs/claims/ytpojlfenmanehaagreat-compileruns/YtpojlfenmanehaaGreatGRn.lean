/-
  The walk of a law.
-/
import Derived.Test.YtpojlfenmanehaaGreatGMo
import Derived.Test.YtpojlfenmanehaaGreatGLw
import Derived.Test.YtpojlfenmanehaaGreatGOp
import Derived.Test.YtpojlfenmanehaaGreatGK6
import Derived.Test.YtpojlfenmanehaaGreatGM4
namespace Go.Proofs.YtpojlfenmanehaaGreat
open Go.RowKit

/-- what rules say of a call may be. -/
theorem dec_right (d : M.Da) (k a : Int) (rs : List M.Xr) (h : (M.checkP k a (rs.map M.Xr.r)).1 = 0) (hf : Fits rs) : A.rightB (M.decA d k a (rs.map M.Xr.r)).1 (M.decA d k a (rs.map M.Xr.r)).2 = true := by
  obtain ⟨_, h1, h2⟩ := rok_of h hf
  unfold M.decA
  rw [if_pos h]
  split
  · unfold M.verdP
    split
    · have key : ∀ l : List M.Xl, (∀ x ∈ l, M.actB x.k x.a = true) → A.rightB (M.verdF d k a l).1 (M.verdF d k a l).2 = true := by
        intro l
        induction l with
        | nil => intro _; exact actB_right h1
        | cons x l ih =>
          intro hx
          unfold M.verdF
          split
          · exact actB_right (hx x (List.mem_cons_self ..))
          · exact ih fun y hy => hx y (List.mem_cons_of_mem _ hy)
      exact key _ fun x hx => by obtain ⟨y, hy, rfl⟩ := List.mem_map.1 hx; exact h2 y hy
    · exact actB_right h1
  · rfl

set_option linter.unusedSimpArgs false in
set_option maxRecDepth 8000 in
set_option maxHeartbeats 4000000 in
theorem runs_walk (w : World) (k a : Int) (v : Value) (rs : List M.Xr) (vl : Value) (ds : List M.Da) (h : M.RlR w v rs) (hf : Fits rs) (hd : DaR w vl ds ∧ ∀ d ∈ ds, d.ok) :
    Calls Tryz.prog 6 #[.agg #[.int .i64 k, .int .i64 a, v], vl] w fun e w' => e = .returned (.bool true) ∧ Below w.heap.size w w' := by
  obtain ⟨p1, c1, rfl⟩ : ∃ p c, v = .slice p rs.length c := by obtain ⟨p, c, e, _⟩ := h; exact ⟨p, c, e⟩
  obtain ⟨pl, cl, rfl⟩ : ∃ p c, vl = .slice p ds.length c := by obtain ⟨p, c, e, _⟩ := hd.1; exact ⟨p, c, e⟩
  have HA : Hid (∀ W, Calls Tryz.prog 9 #[] W fun e w' => e = .returned (.bool true) ∧ Below W.heap.size W w') := awake_any
  have HL : Hid (∀ W, M.RlR W (.slice p1 rs.length c1) rs → Calls Tryz.prog 10 #[.agg #[.int .i64 k, .int .i64 a, .slice p1 rs.length c1]] W fun e w' => M.LightR W rs e w') := fun W h => M.light_any W k a _ rs h
  have HC : Hid (M.Lt rs → ∀ W, M.RlR W (.slice p1 rs.length c1) rs → Calls Tryz.prog 11 #[.agg #[.int .i64 k, .int .i64 a, .slice p1 rs.length c1]] W fun e w' => CmT W k a rs e w') := fun hL W hW => compile_any W k a _ rs hW hL hf
  have HX : Hid (∀ W, Below (w.alloc (Obj.cells #[.int .i64 k, .int .i64 a, .slice p1 rs.length c1] 26)).heap.size (w.alloc (Obj.cells #[.int .i64 k, .int .i64 a, .slice p1 rs.length c1] 26)) W → W.cell? ⟨w.heap.size, 0, none⟩ = some (.int .i64 k) ∧ W.cell? ⟨w.heap.size, 1, none⟩ = some (.int .i64 a) ∧ W.cell? ⟨w.heap.size, 2, none⟩ = some (.slice p1 rs.length c1) ∧ M.RlR W (.slice p1 rs.length c1) rs ∧ Below w.heap.size w W) := box_rules w k a p1 c1 rs h
  have HDs : Hid (∀ W, Below w.heap.size w W → DaR W (.slice pl ds.length cl) ds) := fun W hW => hd.1.below hW
  have HOk : Hid (∀ d ∈ ds, d.ok) := hd.2
  have HF : Hid (Fits rs) := hf
  unfold CmT at HC
  clear h hf hd
  go_enter Tryz.func6, Tryz.ntmps6
  go_upto_region 3 with (first
    | (go_at_call 9; refine (HA.out _).mono ?_; rintro e w1 ⟨rfl, b1⟩; obtain ⟨q0, q1, q2, r1, B1⟩ := HX.out _ b1)
    | (go_at_call 10; refine (HL.out _ r1).mono ?_; rintro e w2 ⟨bb, rfl, b2, hbb⟩; have X2 := b1.trans (b2.mono b1.size); obtain ⟨t0, t1, t2, r2, B2⟩ := HX.out _ X2))
  clear q0 q1 q2 r1 B1 b1 b2
  cases bb with
  | false =>
    go_wp2_with fail
    go_ret
    exact ⟨rfl, B2⟩
  | true =>
    have hLt : M.Lt rs := hbb rfl
    have HC2 : Hid _ := HC.out hLt
    clear HC HL HA hbb
    by_cases h50 : 50 < ds.length
    · have h501 : (50 : Int) < (ds.length : Int) := by omega
      go_wp2_with fail
      go_ret
      exact ⟨rfl, B2⟩
    have h501 : ¬ (50 : Int) < (ds.length : Int) := by omega
    go_upto_region 6 with (first
      | (go_at_call 11; refine (HC2.out _ r2).mono ?_; rintro e w3 ⟨v3, er, rfl, b3, hcase⟩; have X3 := X2.trans (b3.mono X2.size); have B3 := (HX.out _ X3).2.2.2.2))
    clear t0 t1 t2 r2 B2 X2 b3 HC2
    rcases hcase with ⟨hp, rfl, rfl⟩ | ⟨h0, hR, ns, hn, ⟨hl, rfl, rfl⟩ | ⟨hl, rfl, ho⟩⟩
    · have hp' : ((M.checkP k a (rs.map M.Xr.r)).1 == 0) = false := by simpa using hp
      generalize (M.checkP k a (rs.map M.Xr.r)).1 = p at *
      go_wp2_with fail
      go_ret
      exact ⟨rfl, B3⟩
    · go_wp2_with fail
      go_ret
      exact ⟨rfl, B3⟩
    · have HRun : Hid (∀ (d : M.Da), d.ok → ∀ W, Below w3.heap.size w3 W → Calls Tryz.prog 18 #[v3, .agg d.cells.toArray] W fun e w' => ∃ n : Nat, n ≤ 16 + mostR d.n (rs.map M.Xr.r) ∧ e = .returned (.tuple #[.int .u32 (meanZ d k a (rs.map M.Xr.r)), .int .i64 n, .int .i64 0]) ∧ Below W.heap.size W w') := fun d hd W hW => run_prog d hd ns k a rs hn hR hl W v3 _ (own_over ho hW)
      have HDec : Hid (∀ (d : M.Da), d.ok → ∀ W, M.RlR W (.slice p1 rs.length c1) rs → Calls Tryz.prog 19 #[.agg #[.int .i64 k, .int .i64 a, .slice p1 rs.length c1], .agg d.cells.toArray] W fun e w' => e = .returned (M.decV (M.decA d k a (rs.map M.Xr.r)) 0) ∧ Below W.heap.size W w') := fun d hd W hW => by
        have := M.decide_any W k a _ rs d hW (by have := hR.len; omega) (fun x hx => ⟨by have := hR.nam x hx; omega, by have := hR.con x hx; omega⟩) hd
        unfold M.decE at this
        rw [h0] at this
        exact this
      have HMd : Hid (∀ d : M.Da, meanZ d k a (rs.map M.Xr.r) = A.valZ (M.decA d k a (rs.map M.Xr.r)).1 (M.decA d k a (rs.map M.Xr.r)).2 ∧ A.rightB (M.decA d k a (rs.map M.Xr.r)).1 (M.decA d k a (rs.map M.Xr.r)).2 = true) := fun d => ⟨mean_dec d k a _ h0, dec_right d k a rs h0 HF.out⟩
      obtain ⟨a3, q3, rfl⟩ := own_slice ho
      clear ho hn hR h0 hl HF hLt
      generalize (progI ns k a (rs.map M.Xr.r)).length = N1 at *
      have HY : Hid (∀ W, Below w3.heap.size w3 W → W.cell? ⟨w.heap.size, 0, none⟩ = some (.int .i64 k) ∧ W.cell? ⟨w.heap.size, 1, none⟩ = some (.int .i64 a) ∧ W.cell? ⟨w.heap.size, 2, none⟩ = some (.slice p1 rs.length c1) ∧ M.RlR W (.slice p1 rs.length c1) rs ∧ Below w.heap.size w W) := fun W hW => HX.out W (X3.trans (hW.mono X3.size))
      clear X3 HX
      go_upto_region 9 with fail
      generalize hY : w3 = Y at *
      clear hY
      go_loopw [9] (fun vi wr => ∃ i : Nat, vi = .int .i64 i ∧ i ≤ ds.length ∧ Below Y.heap.size Y wr) (fun vi _ => ds.length - (intOf vi).toNat)
      case atStart => exact ⟨0, rfl, Nat.zero_le _, Below.refl _ _⟩
      case round =>
        obtain ⟨i, rfl, hi, hb⟩ := hrel
        by_cases hlt : i < ds.length
        · have hi1 : (i : Int) < (ds.length : Int) := by omega
          have hdo := HOk.out _ (List.getElem_mem hlt)
          obtain ⟨pd, cd, e1, _, _, hcd⟩ := HDs.out wr (HY.out wr hb).2.2.2.2
          cases e1
          obtain ⟨db, do', rfl, hcell⟩ := hcd (by omega)
          have HDc0 : ∀ W, Below Y.heap.size Y W → ∀ (j : Nat) (x : Value), (ds[i]).cells[j]? = some x → W.cell? ⟨db, do' + i * 9 + j, none⟩ = some x := fun W hW j x hj => by
            obtain ⟨pd2, cd2, e2, _, _, hcd2⟩ := HDs.out W (HY.out W hW).2.2.2.2
            cases e2
            obtain ⟨db2, do2, e3, hcell2⟩ := hcd2 (by omega)
            cases e3
            exact hcell2 i _ (List.getElem?_eq_getElem hlt) j x hj
          obtain ⟨em, er⟩ := HMd.out ds[i]
          have HR1 := HRun.out ds[i] hdo
          have HD1 := HDec.out ds[i] hdo
          obtain ⟨d1v, d2v, d3v, d4v, d5v, d6v, d7v, d8v, hAA⟩ := M.nine_of ds[i] hdo
          rw [em] at HR1
          rw [hAA] at HR1 HD1 HDc0
          unfold M.decV M.actV at HD1
          have hvl := fun W => valueL_any _ _ W er
          generalize M.decA ds[i] k a (rs.map M.Xr.r) = da at *
          generalize (ds[i]).n = dn at *
          obtain ⟨xk, xa⟩ := da
          dsimp only at *
          have HVl : Hid (∀ W, Calls Tryz.prog 20 #[.agg #[.int .i64 xk, .int .i64 xa]] W fun e w' => e = .returned (.int .u32 (A.valZ xk xa)) ∧ Below W.heap.size W w') := hvl
          generalize mostR dn (rs.map M.Xr.r) = mr at *
          generalize A.valZ xk xa = av at *
          have HRn : Hid (∀ W, Below Y.heap.size Y W → Calls Tryz.prog 18 #[.slice a3 N1 q3, .agg #[.int .u32 dn, d1v, d2v, d3v, d4v, d5v, d6v, d7v, d8v]] W fun e w' => ∃ n : Nat, n ≤ 16 + mr ∧ e = .returned (.tuple #[.int .u32 av, .int .i64 n, .int .i64 0]) ∧ Below W.heap.size W w') := HR1
          have HDd : Hid (∀ W, Below Y.heap.size Y W → Calls Tryz.prog 19 #[.agg #[.int .i64 k, .int .i64 a, .slice p1 rs.length c1], .agg #[.int .u32 dn, d1v, d2v, d3v, d4v, d5v, d6v, d7v, d8v]] W fun e w' => e = .returned (.tuple #[.agg #[.int .i64 xk, .int .i64 xa], .int .i64 0]) ∧ Below W.heap.size W w') := fun W hW => HD1 W (HY.out W hW).2.2.2.1
          have HDc : Hid (∀ W, Below Y.heap.size Y W → ∀ (j : Nat) (x : Value), [.int .u32 dn, d1v, d2v, d3v, d4v, d5v, d6v, d7v, d8v][j]? = some x → W.cell? ⟨db, do' + i * 9 + j, none⟩ = some x) := HDc0
          have HB4 : Hid (∀ W, Below Y.heap.size Y W → W.cell? ⟨w.heap.size, 0, none⟩ = some (.int .i64 k) ∧ W.cell? ⟨w.heap.size, 1, none⟩ = some (.int .i64 a) ∧ W.cell? ⟨w.heap.size, 2, none⟩ = some (.slice p1 rs.length c1)) := fun W hW => ⟨(HY.out W hW).1, (HY.out W hW).2.1, (HY.out W hW).2.2.1⟩
          have hav : (av == av) = true := by simp
          have n0 := HDc.out wr hb 0 _ rfl
          have n1 := HDc.out wr hb 1 _ rfl
          have n2 := HDc.out wr hb 2 _ rfl
          have n3 := HDc.out wr hb 3 _ rfl
          have n4 := HDc.out wr hb 4 _ rfl
          have n5 := HDc.out wr hb 5 _ rfl
          have n6 := HDc.out wr hb 6 _ rfl
          have n7 := HDc.out wr hb 7 _ rfl
          have n8 := HDc.out wr hb 8 _ rfl
          rw [Nat.add_zero] at n0
          have HBr : Hid (Below Y.heap.size Y wr) := hb
          clear hcell hcd HR1 HD1 HDc0 hvl er em hAA hdo hb
          go_upto_region 12 with (first
            | (go_at_call 18; refine (HRn.out _ HBr.out).mono ?_; rintro e w4 ⟨n9, -, rfl, b4⟩))
          have hS0 : Below Y.heap.size Y w4.drew := (HBr.out.trans (b4.mono HBr.out.size)).drew
          clear n0 n1 n2 n3 n4 n5 n6 n7 n8 b4
          refine wp_region_held_drew (S := (fun W => Below Y.heap.size Y W)) (by kernel_rfl) (hS0) (fun hHeld => ?_)
          simp only [List.size_toArray, List.length_cons, List.length_nil, Nat.reduceAdd]
          generalize w4.drew = Z at *
          refine wpAnyH_take (i := 0) (v := ?_) rfl (by kernel_rfl) (by kernel_rfl) (by kernel_rfl) (fun _ _ _ h => h) (Or.inl ⟨by rfl, ?_⟩) hHeld ?_
          rotate_left
          · (intro w hSw; (try dsimp only at hSw); have s0 := (HB4.out _ hSw).1; have s1 := (HB4.out _ hSw).2.1; have s2 := (HB4.out _ hSw).2.2; go_simp; try with_reducible rfl)
          try simp only [Act.put, List.setIfInBounds_toArray, List.set_cons_zero, List.set_cons_succ, List.getElem_toArray, List.getElem_cons_zero, List.getElem_cons_succ]
          refine wpAnyH_take (i := 1) (v := ?_) rfl (by kernel_rfl) (by kernel_rfl) (by kernel_rfl) (fun _ _ _ h => h) (Or.inl ⟨by rfl, ?_⟩) hHeld ?_
          rotate_left
          · (intro w hSw; (try dsimp only at hSw); go_simp; try with_reducible rfl)
          try simp only [Act.put, List.setIfInBounds_toArray, List.set_cons_zero, List.set_cons_succ, List.getElem_toArray, List.getElem_cons_zero, List.getElem_cons_succ]
          refine wpAnyH_take (i := 2) (v := ?_) rfl (by kernel_rfl) (by kernel_rfl) (by kernel_rfl) (fun _ _ _ h => h) (Or.inl ⟨by rfl, ?_⟩) hHeld ?_
          rotate_left
          · (intro w hSw; (try dsimp only at hSw); go_simp; try with_reducible rfl)
          try simp only [Act.put, List.setIfInBounds_toArray, List.set_cons_zero, List.set_cons_succ, List.getElem_toArray, List.getElem_cons_zero, List.getElem_cons_succ]
          refine wpAnyH_take (i := 3) (v := ?_) rfl (by kernel_rfl) (by kernel_rfl) (by kernel_rfl) (fun _ _ _ h => h) (Or.inl ⟨by rfl, ?_⟩) hHeld ?_
          rotate_left
          · (intro w hSw; (try dsimp only at hSw); go_simp; try with_reducible rfl)
          try simp only [Act.put, List.setIfInBounds_toArray, List.set_cons_zero, List.set_cons_succ, List.getElem_toArray, List.getElem_cons_zero, List.getElem_cons_succ]
          refine wpAnyH_take (i := 4) (v := ?_) rfl (by kernel_rfl) (by kernel_rfl) (by kernel_rfl) (fun _ _ _ h => h) (Or.inl ⟨by rfl, ?_⟩) hHeld ?_
          rotate_left
          · (intro w hSw; (try dsimp only at hSw); have n0 := (HDc.out _ hSw) 0 _ rfl; have n1 := (HDc.out _ hSw) 1 _ rfl; have n2 := (HDc.out _ hSw) 2 _ rfl; have n3 := (HDc.out _ hSw) 3 _ rfl; have n4 := (HDc.out _ hSw) 4 _ rfl; have n5 := (HDc.out _ hSw) 5 _ rfl; have n6 := (HDc.out _ hSw) 6 _ rfl; have n7 := (HDc.out _ hSw) 7 _ rfl; have n8 := (HDc.out _ hSw) 8 _ rfl; simp only [Nat.add_zero] at n0; go_simp; try with_reducible rfl)
          try simp only [Act.put, List.setIfInBounds_toArray, List.set_cons_zero, List.set_cons_succ, List.getElem_toArray, List.getElem_cons_zero, List.getElem_cons_succ]
          refine wpAnyH_ready (rs := [5, 9]) (by kernel_rfl) (by simp) ?_
          refine AllReadyH.cons rfl (fun K hK => ?_) (AllReadyH.cons rfl (fun K hK => ?_) AllReadyH.nil)
          · go_simp
            refine (HDd.out _ hHeld).mono ?_
            rintro e w5 ⟨rfl, b5⟩
            go_wp2_with fail
            have hH5 : Below Y.heap.size Y w5 := hHeld.trans (b5.mono hHeld.size)
            refine hK.out _ _ (hH5) (fun hHeld => ?_)
            clear hK K
            try simp only [Act.put, List.setIfInBounds_toArray, List.set_cons_zero, List.set_cons_succ, List.getElem_toArray, List.getElem_cons_zero, List.getElem_cons_succ]
            refine wpAnyH_take (i := 6) (v := ?_) rfl (by kernel_rfl) (by kernel_rfl) (by kernel_rfl) (fun _ _ _ h => h) (Or.inl ⟨by rfl, ?_⟩) hHeld ?_
            rotate_left
            · (intro w hSw; (try dsimp only at hSw); go_simp; try with_reducible rfl)
            try simp only [Act.put, List.setIfInBounds_toArray, List.set_cons_zero, List.set_cons_succ, List.getElem_toArray, List.getElem_cons_zero, List.getElem_cons_succ]
            refine wpAnyH_take (i := 7) (v := ?_) rfl (by kernel_rfl) (by kernel_rfl) (by kernel_rfl) (fun _ _ _ h => h) (Or.inl ⟨by rfl, ?_⟩) hHeld ?_
            rotate_left
            · (intro w hSw; (try dsimp only at hSw); go_simp; try with_reducible rfl)
            try simp only [Act.put, List.setIfInBounds_toArray, List.set_cons_zero, List.set_cons_succ, List.getElem_toArray, List.getElem_cons_zero, List.getElem_cons_succ]
            refine wpAnyH_take (i := 8) (v := ?_) rfl (by kernel_rfl) (by kernel_rfl) (by kernel_rfl) (fun _ _ _ h => h) (Or.inl ⟨by rfl, ?_⟩) hHeld ?_
            rotate_left
            · (intro w hSw; (try dsimp only at hSw); go_simp; try with_reducible rfl)
            try simp only [Act.put, List.setIfInBounds_toArray, List.set_cons_zero, List.set_cons_succ, List.getElem_toArray, List.getElem_cons_zero, List.getElem_cons_succ]
            refine wpAnyH_ready (rs := [9]) (by kernel_rfl) (by simp) ?_
            refine AllReadyH.cons rfl (fun K hK => ?_) AllReadyH.nil
            go_simp
            have hH6 : Below Y.heap.size Y (w5.alloc (Obj.cells #[.int .i64 0, .int .i64 0] 23)) := hH5.alloc hH5.size _
            refine hK.out _ _ (hH6) (fun hHeld => ?_)
            clear hK K
            try simp only [Act.put, List.setIfInBounds_toArray, List.set_cons_zero, List.set_cons_succ, List.getElem_toArray, List.getElem_cons_zero, List.getElem_cons_succ]
            refine wpAnyH_ready (rs := [10]) (by kernel_rfl) (by simp) ?_
            refine AllReadyH.cons rfl (fun K hK => ?_) AllReadyH.nil
            go_simp
            have hH8 : Below Y.heap.size Y (w5.alloc (Obj.cells #[.int .i64 xk, .int .i64 xa] 23)) := hH5.alloc hH5.size _
            refine hK.out _ _ (hH8) (fun hHeld => ?_)
            clear hK K
            try simp only [Act.put, List.setIfInBounds_toArray, List.set_cons_zero, List.set_cons_succ, List.getElem_toArray, List.getElem_cons_zero, List.getElem_cons_succ]
            refine wpAnyH_take (i := 11) (v := ?_) rfl (by kernel_rfl) (by kernel_rfl) (by kernel_rfl) (fun _ _ _ h => h) (Or.inl ⟨by rfl, ?_⟩) hHeld ?_
            rotate_left
            · (intro w hSw; (try dsimp only at hSw); go_simp; try with_reducible rfl)
            try simp only [Act.put, List.setIfInBounds_toArray, List.set_cons_zero, List.set_cons_succ, List.getElem_toArray, List.getElem_cons_zero, List.getElem_cons_succ]
            refine wpAnyH_done (by kernel_rfl) ?_ _
            have z0 : (w5.alloc (Obj.cells #[.int .i64 xk, .int .i64 xa] 23)).cell? ⟨w5.heap.size, 0, none⟩ = some (.int .i64 xk) := (V.blk_new w5 _ _).cell 0
            have z1 : (w5.alloc (Obj.cells #[.int .i64 xk, .int .i64 xa] 23)).cell? ⟨w5.heap.size, 1, none⟩ = some (.int .i64 xa) := (V.blk_new w5 _ _).cell 1
            clear hHeld hH6 b5
            go_wp2_with (first | (go_at_call 20; refine (HVl.out _).mono ?_; rintro e w9 ⟨rfl, b9⟩))
            go_roundw
            case rel => exact ⟨i + 1, by go_num, hlt, hH8.trans (b9.mono hH8.size)⟩
            case measure => simp [intOf]; omega
          · go_simp
            have hH5 : Below Y.heap.size Y (Z.alloc (Obj.cells #[.int .i64 0, .int .i64 0] 23)) := hHeld.alloc hHeld.size _
            have hYZ : Y.heap.size ≤ Z.heap.size := hHeld.size
            refine hK.out _ _ (hH5) (fun hHeld => ?_)
            clear hK K
            try simp only [Act.put, List.setIfInBounds_toArray, List.set_cons_zero, List.set_cons_succ, List.getElem_toArray, List.getElem_cons_zero, List.getElem_cons_succ]
            refine wpAnyH_ready (rs := [5]) (by kernel_rfl) (by simp) ?_
            refine AllReadyH.cons rfl (fun K hK => ?_) AllReadyH.nil
            go_simp
            refine (HDd.out _ hHeld).mono ?_
            rintro e w5 ⟨rfl, b5⟩
            go_wp2_with fail
            have hH6 : Below Y.heap.size Y w5 := hHeld.trans (b5.mono hHeld.size)
            have kb : V.Blk w5 Z.heap.size 23 [.int .i64 0, .int .i64 0] := (V.blk_new Z _ _).over b5
            refine hK.out _ _ (hH6) (fun hHeld => ?_)
            clear hK K
            try simp only [Act.put, List.setIfInBounds_toArray, List.set_cons_zero, List.set_cons_succ, List.getElem_toArray, List.getElem_cons_zero, List.getElem_cons_succ]
            refine wpAnyH_take (i := 6) (v := ?_) rfl (by kernel_rfl) (by kernel_rfl) (by kernel_rfl) (fun _ _ _ h => h) (Or.inl ⟨by rfl, ?_⟩) hHeld ?_
            rotate_left
            · (intro w hSw; (try dsimp only at hSw); go_simp; try with_reducible rfl)
            try simp only [Act.put, List.setIfInBounds_toArray, List.set_cons_zero, List.set_cons_succ, List.getElem_toArray, List.getElem_cons_zero, List.getElem_cons_succ]
            refine wpAnyH_take (i := 7) (v := ?_) rfl (by kernel_rfl) (by kernel_rfl) (by kernel_rfl) (fun _ _ _ h => h) (Or.inl ⟨by rfl, ?_⟩) hHeld ?_
            rotate_left
            · (intro w hSw; (try dsimp only at hSw); go_simp; try with_reducible rfl)
            try simp only [Act.put, List.setIfInBounds_toArray, List.set_cons_zero, List.set_cons_succ, List.getElem_toArray, List.getElem_cons_zero, List.getElem_cons_succ]
            refine wpAnyH_take (i := 8) (v := ?_) rfl (by kernel_rfl) (by kernel_rfl) (by kernel_rfl) (fun _ _ _ h => h) (Or.inl ⟨by rfl, ?_⟩) hHeld ?_
            rotate_left
            · (intro w hSw; (try dsimp only at hSw); go_simp; try with_reducible rfl)
            try simp only [Act.put, List.setIfInBounds_toArray, List.set_cons_zero, List.set_cons_succ, List.getElem_toArray, List.getElem_cons_zero, List.getElem_cons_succ]
            refine wpAnyH_ready (rs := [10]) (by kernel_rfl) (by simp) ?_
            refine AllReadyH.cons rfl (fun K hK => ?_) AllReadyH.nil
            have kc0 := kb.cell 0
            have kc1 := kb.cell 1
            have kf0 := kb.f 0
            have kf1 := kb.f 1
            go_simp
            have hg1 := hH6.grown (grow_set w5 Z.heap.size 0 (.int .i64 xk)) hH6.size (fun j hj => by cases hj; exact hYZ)
            have hH8 := hg1.grown (grow_set _ Z.heap.size 1 (.int .i64 xa)) hg1.size (fun j hj => by cases hj; exact hYZ)
            have kz := (kb.set 0 (.int .i64 xk)).set 1 (.int .i64 xa)
            refine hK.out _ _ (hH8) (fun hHeld => ?_)
            clear hK K
            try simp only [Act.put, List.setIfInBounds_toArray, List.set_cons_zero, List.set_cons_succ, List.getElem_toArray, List.getElem_cons_zero, List.getElem_cons_succ]
            refine wpAnyH_take (i := 11) (v := ?_) rfl (by kernel_rfl) (by kernel_rfl) (by kernel_rfl) (fun _ _ _ h => h) (Or.inl ⟨by rfl, ?_⟩) hHeld ?_
            rotate_left
            · (intro w hSw; (try dsimp only at hSw); go_simp; try with_reducible rfl)
            try simp only [Act.put, List.setIfInBounds_toArray, List.set_cons_zero, List.set_cons_succ, List.getElem_toArray, List.getElem_cons_zero, List.getElem_cons_succ]
            refine wpAnyH_done (by kernel_rfl) ?_ _
            have z0 := kz.cell 0
            have z1 := kz.cell 1
            clear hHeld hH6 hg1 kb kc0 kc1 kf0 kf1 kz b5 hH5
            generalize ((w5.setCell ⟨Z.heap.size, 0, none⟩ (.int .i64 xk)).setCell ⟨Z.heap.size, 1, none⟩ (.int .i64 xa)) = W8 at *
            go_wp2_with (first | (go_at_call 20; refine (HVl.out _).mono ?_; rintro e w9 ⟨rfl, b9⟩))
            go_roundw
            case rel => exact ⟨i + 1, by go_num, hlt, hH8.trans (b9.mono hH8.size)⟩
            case measure => simp [intOf]; omega
        · have hi1 : ¬ (i : Int) < (ds.length : Int) := by omega
          have HE := (HY.out wr hb).2.2.2.2
          clear hb
          go_wp2_with fail
          go_ret
          exact ⟨rfl, HE⟩

end Go.Proofs.YtpojlfenmanehaaGreat

