/-
  The document's Set.
-/
import Derived.Test.YtifddbfcongepaaRStop
namespace Go.Proofs.Ytifddbfcongepaa
open Go.RowKit Go.Maps

theorem app_fr {e : TypeId} {base n : Nat} {w w' : World} {v v' : Value} {xs ys : List Value} (h : w.ownsRow base e 1 v n xs) (ha : App e base w w' v v' ys) (hB : base ≤ w.heap.size) : Fr [e] [] base w w' := by
  have hx : ∀ k, v.ownBlock = some k → base ≤ k ∧ ∃ cs, w.heap[k]? = some (.cells cs e (0, 0)) := fun k hk => by
    rcases h.2 with ⟨rfl, _⟩ | ⟨g, cap, cur, rfl, hg, hh, _⟩
    · cases hk
    · cases hk
      exact ⟨hg, cur, hh⟩
  refine ⟨⟨ha.grow.os, ha.grow.tape, ha.grow.output, ha.grow.size, fun k hk => ha.grow.block k (by omega) fun e2 => ?_⟩, fun k o hk ht _ => ?_⟩
  · have := (hx k e2.symm).1
    omega
  · rw [ha.grow.block k (Array.getElem?_eq_some_iff.1 hk).1 fun e2 => ?_]
    · exact hk
    · obtain ⟨_, cs, hc⟩ := hx k e2.symm
      rw [hc] at hk
      cases hk
      exact ht _ _ _ rfl (by simp)
section
variable {W W1 : World} {base b : Nat} {v : Int} {vi vl v' : Value} {ks ls : List Int}
theorem add_id {z : Int} (h : RfC W base b v vi vl ks ls) (ha : App 31 base (W.alloc (.cells #[.int .u64 z] 31)) W1 vi v' (cellsZ ks ++ cellsZ [z])) (hB : base ≤ W.heap.size) :
    RfC (W1.setCell ⟨b, 1, none⟩ v') base b v v' vl (ks ++ [z]) ls ∧ Fr [42, 31, 3] [] base W (W1.setCell ⟨b, 1, none⟩ v') := by
  have hb := below_new W (.cells #[.int .u64 z] 31)
  have h1 := h.over hb
  have hf := app_fr h1.ri ha (Nat.le_trans hB hb.size)
  have hblk : Blk W1 b 42 [.int .i64 v, vi, vl] := h1.blk.fr hf (by simp) (by simp)
  have hs : Fr [42] [] base W1 (W1.setCell ⟨b, 1, none⟩ v') := fr_set hblk (by simp) h.bb
  have hr : W1.ownsRow base 31 1 v' (ks ++ [z]).length (cellsZ (ks ++ [z])) := by
    have := ha.own
    have e : cellsZ ks ++ cellsZ [z] = cellsZ (ks ++ [z]) := by simp [cellsZ]
    rw [e, cellsZ_len] at this
    exact this
  exact ⟨⟨h.bb, hblk.set 1 v', owns_fr hr hs (by simp) (fun _ _ => by simp), owns_fr (owns_fr h1.rl hf (by simp) (fun _ _ => by simp)) hs (by simp) (fun _ _ => by simp)⟩,
    (fr_below hb hB).trans ((hf.mono (by simp) (by simp)).trans (hs.mono (by simp) (by simp)))⟩
theorem add_left {z : Int} (h : RfC W base b v vi vl ks ls) (ha : App 3 base (W.alloc (.cells #[.int .i64 z] 3)) W1 vl v' (cellsN ls ++ cellsN [z])) (hB : base ≤ W.heap.size) :
    RfC (W1.setCell ⟨b, 2, none⟩ v') base b v vi v' ks (ls ++ [z]) ∧ Fr [42, 31, 3] [] base W (W1.setCell ⟨b, 2, none⟩ v') := by
  have hb := below_new W (.cells #[.int .i64 z] 3)
  have h1 := h.over hb
  have hf := app_fr h1.rl ha (Nat.le_trans hB hb.size)
  have hblk : Blk W1 b 42 [.int .i64 v, vi, vl] := h1.blk.fr hf (by simp) (by simp)
  have hs : Fr [42] [] base W1 (W1.setCell ⟨b, 2, none⟩ v') := fr_set hblk (by simp) h.bb
  have hr : W1.ownsRow base 3 1 v' (ls ++ [z]).length (cellsN (ls ++ [z])) := by
    have := ha.own
    have e : cellsN ls ++ cellsN [z] = cellsN (ls ++ [z]) := by simp [cellsN]
    rw [e, cellsN_len] at this
    exact this
  exact ⟨⟨h.bb, hblk.set 2 v', owns_fr (owns_fr h1.ri hf (by simp) (fun _ _ => by simp)) hs (by simp) (fun _ _ => by simp), owns_fr hr hs (by simp) (fun _ _ => by simp)⟩,
    (fr_below hb hB).trans ((hf.mono (by simp) (by simp)).trans (hs.mono (by simp) (by simp)))⟩
end

set_option maxRecDepth 8000 in
set_option maxHeartbeats 16000000 in
theorem rset_any (w : World) (base b : Nat) (v z : Int) (T : Tm) (h : RfT w base b v T) (hnd : (keys T).Nodup) (hlen : T.length ≤ 1000) (hB : base ≤ w.heap.size) :
    Calls Try.prog 12 #[.pointer (some ⟨b, 0, none⟩), .int .u64 z] w fun e w' => e = .returned (.tuple #[]) ∧ RfT w' base b v (setT T z v) ∧ Fr [42, 31, 3] [] base w w' := by
  have HS : Hid (Calls Try.prog 14 #[.pointer (some ⟨b, 0, none⟩), .int .u64 z] w fun e w' => e = .returned (.bool (decide (z ∈ keys T))) ∧ RfT w' base b v (stopT T z) ∧ Fr [42] [] base w w') := rstop_any w base b v z T h hnd hlen hB
  have hkl := len_stopT T z
  have HKS : Hid (keys (setT T z v) = keys (stopT T z) ++ [z] ∧ lefts (setT T z v) = lefts (stopT T z) ++ [v]) := ⟨keys_setT T z v, by unfold setT lefts; rw [List.map_append]; rfl⟩
  have HBW : Hid (base ≤ w.heap.size) := hB
  obtain ⟨KS, hKS⟩ : ∃ l, keys (stopT T z) = l := ⟨_, rfl⟩
  obtain ⟨LS, hLS⟩ : ∃ l, lefts (stopT T z) = l := ⟨_, rfl⟩
  have HLN : Hid (KS.length ≤ 1000 ∧ LS.length ≤ 1000) := ⟨by rw [← hKS, keys_len]; omega, by rw [← hLS, lefts_len]; omega⟩
  clear h hnd hlen hkl hB
  go_enter Try.func12, Try.ntmps12
  go_wp2_with fail
  refine HS.out.mono ?_
  rintro e w1 ⟨rfl, ⟨vi, vl, hr1⟩, hf1⟩
  rw [hKS, hLS] at hr1
  have HR1 : Hid (RfC w1 base b v vi vl KS LS ∧ Fr [42, 31, 3] [] base w w1 ∧ base ≤ w1.heap.size) := ⟨hr1, hf1.mono (by simp) (by simp), Nat.le_trans HBW.out hf1.bel.size⟩
  have c1 : w1.cell? ⟨b, 1, none⟩ = some vi := hr1.blk.cell 1
  obtain ⟨pl, cl, hvl⟩ := row_sliceN hr1.rl
  obtain ⟨nl, hnl⟩ : ∃ n, LS.length = n := ⟨_, rfl⟩
  rw [hnl] at hvl
  subst hvl
  clear hr1 hf1 HS
  go_wp2_with (first
    | (at_builtin; refine list_app (ys := cellsZ [z]) ety_u rfl _ _ rfl rfl rfl (HR1.out.1.over (below_new _ (.cells #[.int .u64 z] 31))).ri (sc_one _ _ _) (one_z _) (by have := HLN.out.1; simp [cellsZ]; omega) (Nat.le_trans HR1.out.2.2 (below_new w1 (.cells #[.int .u64 z] 31)).size) ?_; intro v5 w5 ha5; obtain ⟨p5, c5, hv5⟩ := (sc_row ha5.own).form; obtain ⟨n5, hn5⟩ : ∃ n, (cellsZ KS ++ cellsZ [z]).length = n := ⟨_, rfl⟩; rw [hn5] at hv5; subst hv5; have HAI : Hid (RfC (w5.setCell ⟨b, 1, none⟩ (.slice p5 n5 c5)) base b v (.slice p5 n5 c5) (.slice pl nl cl) (KS ++ [z]) LS ∧ Fr [42, 31, 3] [] base w1 (w5.setCell ⟨b, 1, none⟩ (.slice p5 n5 c5))) := add_id HR1.out.1 ha5 HR1.out.2.2; have hblk : Blk w5 b 42 [.int .i64 v, vi, .slice pl nl cl] := (HR1.out.1.over (below_new _ (.cells #[.int .u64 z] 31))).blk.fr (app_fr (HR1.out.1.over (below_new _ (.cells #[.int .u64 z] 31))).ri ha5 (Nat.le_trans HR1.out.2.2 (below_new w1 (.cells #[.int .u64 z] 31)).size)) (by simp) (by simp); have hcb : w5.cell? ⟨b, 1, none⟩ = some vi := hblk.cell 1; have hfb : w5.frozen? ⟨b, 1, none⟩ = false := hblk.f 1; clear ha5 hblk; go_frame)
    | go_in)
  have HR6 : Hid (RfC (w5.setCell ⟨b, 1, none⟩ (.slice p5 n5 c5)) base b v (.slice p5 n5 c5) (.slice pl nl cl) (KS ++ [z]) LS ∧ Fr [42, 31, 3] [] base w (w5.setCell ⟨b, 1, none⟩ (.slice p5 n5 c5)) ∧ base ≤ (w5.setCell ⟨b, 1, none⟩ (.slice p5 n5 c5)).heap.size) := ⟨HAI.out.1, HR1.out.2.1.trans HAI.out.2, Nat.le_trans HR1.out.2.2 HAI.out.2.bel.size⟩
  clear HAI hcb hfb c1 HR1
  generalize (w5.setCell ⟨b, 1, none⟩ (.slice p5 n5 c5)) = W6 at *
  refine wp_region_late (E := [13]) (S := fun X => Blk X b 42 [.int .i64 v, (.slice p5 n5 c5), (.slice pl nl cl)]) (by kernel_rfl) ((HR6.out.1.over (Below.refl _ _).drew).blk) (fun hHeld => ?_)
  simp only [List.size_toArray, List.length_cons, List.length_nil, Nat.reduceAdd]
  have HRC : Hid (RfC W6.drew base b v (.slice p5 n5 c5) (.slice pl nl cl) (KS ++ [z]) LS ∧ base ≤ W6.drew.heap.size) := ⟨HR6.out.1.over (Below.refl _ _).drew, HR6.out.2.2⟩
  have HFD : Hid (Fr [42, 31, 3] [] base w W6.drew) := HR6.out.2.1.trans (fr_below (Below.refl _ _).drew HR6.out.2.2)
  generalize W6.drew = wd at *
  refine wpAnyL_take [11, 12, 13] (i := 0) (v := ?_) (by kernel_rfl) (by kernel_rfl) (by kernel_rfl) rfl (by kernel_rfl) (by kernel_rfl) (by kernel_rfl) (fun _ _ _ h => h) (Or.inl ⟨by rfl, ?_⟩) hHeld ?_
  rotate_left
  · (intro w hSw; (try dsimp only at hSw); skip; go_simp; try with_reducible rfl)
  try simp only [Act.put, List.setIfInBounds_toArray, List.set_cons_zero, List.set_cons_succ, List.getElem_toArray, List.getElem_cons_zero]
  refine wpAnyL_take [2, 3, 4, 10, 13] (i := 1) (v := ?_) (by kernel_rfl) (by kernel_rfl) (by kernel_rfl) rfl (by kernel_rfl) (by kernel_rfl) (by kernel_rfl) (fun _ _ _ h => h) (Or.inl ⟨by rfl, ?_⟩) hHeld ?_
  rotate_left
  · (intro w hSw; (try dsimp only at hSw); skip; go_simp; try with_reducible rfl)
  try simp only [Act.put, List.setIfInBounds_toArray, List.set_cons_zero, List.set_cons_succ, List.getElem_toArray, List.getElem_cons_zero, List.getElem_cons_succ]
  refine wpAnyL_take [3, 4, 10, 13] (i := 2) (v := ?_) (by kernel_rfl) (by kernel_rfl) (by kernel_rfl) rfl (by kernel_rfl) (by kernel_rfl) (by kernel_rfl) (fun _ _ _ h => h) (Or.inl ⟨by rfl, ?_⟩) hHeld ?_
  rotate_left
  · (intro w hSw; (try dsimp only at hSw); skip; go_simp; try with_reducible rfl)
  try simp only [Act.put, List.setIfInBounds_toArray, List.set_cons_zero, List.set_cons_succ, List.getElem_toArray, List.getElem_cons_zero, List.getElem_cons_succ]
  refine wpAnyL_take [4, 10, 13] (i := 3) (v := ?_) (by kernel_rfl) (by kernel_rfl) (by kernel_rfl) rfl (by kernel_rfl) (by kernel_rfl) (by kernel_rfl) (fun _ _ _ h => h) (Or.inl ⟨by rfl, ?_⟩) hHeld ?_
  rotate_left
  · (intro w hSw; (try dsimp only at hSw); skip; go_simp; try with_reducible rfl)
  try simp only [Act.put, List.setIfInBounds_toArray, List.set_cons_zero, List.set_cons_succ, List.getElem_toArray, List.getElem_cons_zero, List.getElem_cons_succ]
  refine wpAnyL_take [10, 13] (i := 4) (v := ?_) (by kernel_rfl) (by kernel_rfl) (by kernel_rfl) rfl (by kernel_rfl) (by kernel_rfl) (by kernel_rfl) (fun _ _ _ h => h) (Or.inl ⟨by rfl, ?_⟩) hHeld ?_
  rotate_left
  · (intro w hSw; (try dsimp only at hSw); have hc : w.cell? ⟨b, 2, none⟩ = some (.slice pl nl cl) := hSw.cell 2; go_simp; try with_reducible rfl)
  try simp only [Act.put, List.setIfInBounds_toArray, List.set_cons_zero, List.set_cons_succ, List.getElem_toArray, List.getElem_cons_zero, List.getElem_cons_succ]
  refine wpAnyL_take [6, 7, 8, 9, 10, 13] (i := 5) (v := ?_) (by kernel_rfl) (by kernel_rfl) (by kernel_rfl) rfl (by kernel_rfl) (by kernel_rfl) (by kernel_rfl) (fun _ _ _ h => h) (Or.inl ⟨by rfl, ?_⟩) hHeld ?_
  rotate_left
  · (intro w hSw; (try dsimp only at hSw); skip; go_simp; try with_reducible rfl)
  try simp only [Act.put, List.setIfInBounds_toArray, List.set_cons_zero, List.set_cons_succ, List.getElem_toArray, List.getElem_cons_zero, List.getElem_cons_succ]
  refine wpAnyL_take [7, 8, 9, 10, 13] (i := 6) (v := ?_) (by kernel_rfl) (by kernel_rfl) (by kernel_rfl) rfl (by kernel_rfl) (by kernel_rfl) (by kernel_rfl) (fun _ _ _ h => h) (Or.inl ⟨by rfl, ?_⟩) hHeld ?_
  rotate_left
  · (intro w hSw; (try dsimp only at hSw); skip; go_simp; try with_reducible rfl)
  try simp only [Act.put, List.setIfInBounds_toArray, List.set_cons_zero, List.set_cons_succ, List.getElem_toArray, List.getElem_cons_zero, List.getElem_cons_succ]
  refine wpAnyL_take [8, 9, 10, 13] (i := 7) (v := ?_) (by kernel_rfl) (by kernel_rfl) (by kernel_rfl) rfl (by kernel_rfl) (by kernel_rfl) (by kernel_rfl) (fun _ _ _ h => h) (Or.inl ⟨by rfl, ?_⟩) hHeld ?_
  rotate_left
  · (intro w hSw; (try dsimp only at hSw); skip; go_simp; try with_reducible rfl)
  try simp only [Act.put, List.setIfInBounds_toArray, List.set_cons_zero, List.set_cons_succ, List.getElem_toArray, List.getElem_cons_zero, List.getElem_cons_succ]
  refine wpAnyL_take [9, 10, 13] (i := 8) (v := ?_) (by kernel_rfl) (by kernel_rfl) (by kernel_rfl) rfl (by kernel_rfl) (by kernel_rfl) (by kernel_rfl) (fun _ _ _ h => h) (Or.inl ⟨by rfl, ?_⟩) hHeld ?_
  rotate_left
  · (intro w hSw; (try dsimp only at hSw); have hc : w.cell? ⟨b, 0, none⟩ = some (.int .i64 v) := hSw.cell 0; go_simp; try with_reducible rfl)
  try simp only [Act.put, List.setIfInBounds_toArray, List.set_cons_zero, List.set_cons_succ, List.getElem_toArray, List.getElem_cons_zero, List.getElem_cons_succ]
  refine wpAnyL_one (i := 9) (by kernel_rfl) rfl (fun K hK => ?_)
  go_simp
  have s9 : Blk (wd.alloc (.cells #[.int .i64 v] 3)) b 42 [.int .i64 v, (.slice p5 n5 c5), (.slice pl nl cl)] := hHeld.alloc _
  have C9 : Hid (Sc (wd.alloc (.cells #[.int .i64 v] 3)) (.slice (some ⟨wd.heap.size, 0, none⟩) 1 1) (cellsN [v])) := sc_one _ _ _
  refine hK.out _ _ (fun _ => s9) ?_
  replace hHeld := s9
  clear hK K
  try simp only [Act.put, List.setIfInBounds_toArray, List.set_cons_zero, List.set_cons_succ, List.getElem_toArray, List.getElem_cons_zero, List.getElem_cons_succ]
  refine wpAnyL_one (i := 10) (by kernel_rfl) rfl (fun K hK => ?_)
  have h9 : RfC (wd.alloc (.cells #[.int .i64 v] 3)) base b v (.slice p5 n5 c5) (.slice pl nl cl) (KS ++ [z]) LS := HRC.out.1.over (below_new _ _)
  have hB9 : base ≤ (wd.alloc (.cells #[.int .i64 v] 3)).heap.size := Nat.le_trans HRC.out.2 (below_new wd _).size
  refine step_app ety_i rfl _ _ rfl rfl rfl h9.rl C9.out (one_i _) (by have := HLN.out.2; simp [cellsN]; omega) hB9 (fun v10 w10 ha10 => ?_)
  have s10 : Blk w10 b 42 [.int .i64 v, (.slice p5 n5 c5), (.slice pl nl cl)] := h9.blk.fr (app_fr h9.rl ha10 hB9) (by simp) (by simp)
  obtain ⟨pv, cv, hv10⟩ := (sc_row ha10.own).form
  obtain ⟨nv, hnv⟩ : ∃ nv, (cellsN LS ++ cellsN [v]).length = nv := ⟨_, rfl⟩
  rw [hnv] at hv10
  subst hv10
  have HAD : Hid (RfC (w10.setCell ⟨b, 2, none⟩ (.slice pv nv cv)) base b v (.slice p5 n5 c5) (.slice pv nv cv) (KS ++ [z]) (LS ++ [v]) ∧ Fr [42, 31, 3] [] base wd (w10.setCell ⟨b, 2, none⟩ (.slice pv nv cv))) := add_left HRC.out.1 ha10 HRC.out.2
  have hcb : w10.cell? ⟨b, 2, none⟩ = some (.slice pl nl cl) := s10.cell 2
  have hfb : w10.frozen? ⟨b, 2, none⟩ = false := s10.f 2
  clear ha10 h9 C9 hB9
  refine hK.out _ _ (fun _ => s10) ?_
  replace hHeld := s10
  clear hK K
  try simp only [Act.put, List.setIfInBounds_toArray, List.set_cons_zero, List.set_cons_succ, List.getElem_toArray, List.getElem_cons_zero, List.getElem_cons_succ]
  refine wpAnyL_take [12, 13] (i := 11) (v := ?_) (by kernel_rfl) (by kernel_rfl) (by kernel_rfl) rfl (by kernel_rfl) (by kernel_rfl) (by kernel_rfl) (fun _ _ _ h => h) (Or.inl ⟨by rfl, ?_⟩) hHeld ?_
  rotate_left
  · (intro w hSw; (try dsimp only at hSw); skip; go_simp; try with_reducible rfl)
  try simp only [Act.put, List.setIfInBounds_toArray, List.set_cons_zero, List.set_cons_succ, List.getElem_toArray, List.getElem_cons_zero, List.getElem_cons_succ]
  refine wpAnyL_take [13] (i := 12) (v := ?_) (by kernel_rfl) (by kernel_rfl) (by kernel_rfl) rfl (by kernel_rfl) (by kernel_rfl) (by kernel_rfl) (fun _ _ _ h => h) (Or.inl ⟨by rfl, ?_⟩) hHeld ?_
  rotate_left
  · (intro w hSw; (try dsimp only at hSw); skip; go_simp; try with_reducible rfl)
  try simp only [Act.put, List.setIfInBounds_toArray, List.set_cons_zero, List.set_cons_succ, List.getElem_toArray, List.getElem_cons_zero, List.getElem_cons_succ]
  refine wpAnyL_one (i := 13) (by kernel_rfl) rfl (fun K hK => ?_)
  try dsimp only at hHeld
  go_simp
  refine hK.out _ _ (fun h => by cases h) ?_
  clear hK K
  try simp only [Act.put, List.setIfInBounds_toArray, List.set_cons_zero, List.set_cons_succ, List.getElem_toArray, List.getElem_cons_zero, List.getElem_cons_succ]
  refine wpAnyL_done (by kernel_rfl) ?_ _
  go_wp2_with fail
  go_end0
  exact ⟨rfl, ⟨_, _, by rw [HKS.out.1, HKS.out.2, hKS, hLS]; exact HAD.out.1⟩, HFD.out.trans HAD.out.2⟩

end Go.Proofs.Ytifddbfcongepaa
