/-
  The document's Close.
-/
import Derived.Test.YtcenjdpochjclaaRInst
namespace Go.Proofs.Ytcenjdpochjclaa
open Go.RowKit

/-- what the document's Close leaves. -/
def RShutE (w : World) (base b : Nat) (l : Fd) (T : Tm) (z : Int) (e : Ending) (w' : World) : Prop := e = .returned (.int .i64 (noneF l z)) ∧ RfT w' base b (stopT T z) ∧ Fr [34] [] base w w'

set_option maxRecDepth 8000 in
set_option maxHeartbeats 16000000 in
theorem rclose_any (w : World) (base b : Nat) (z : Int) (l : Fd) (T : Tm) (h : RfT w base b T) (hR : Rl l T) (hB : base ≤ w.heap.size) :
    Calls Try.prog 18 #[.pointer (some ⟨b, 0, none⟩), .int .i64 z] w fun e w' => RShutE w base b l T z e w' := by
  have hle := hR.le
  have hnd := hR.nd
  unfold RShutE
  obtain ⟨nz, hnz⟩ : ∃ s, noneF l z = s := ⟨_, rfl⟩
  obtain ⟨TT, hTT⟩ : ∃ t, stopT T z = t := ⟨_, rfl⟩
  have HNZ : Hid (noneF l z = nz ∧ stopT T z = TT) := ⟨hnz, hTT⟩
  have HIF : Hid ((z ∈ keys T → nz = 0) ∧ (z ∉ keys T → nz = 17)) := by
    refine ⟨fun hm => ?_, fun hm => ?_⟩
    · rw [← hnz]
      unfold noneF
      rw [← hR.look z, if_pos ((lookT_iff T z).2 hm)]
    · rw [← hnz]
      unfold noneF
      rw [← hR.look z, lookT_not hm]
      rfl
  rw [hnz, hTT]
  obtain ⟨vi, vl, hr⟩ := h
  obtain ⟨pi, ci, rfl⟩ := row_slice hr.ri
  obtain ⟨pl, cl, rfl⟩ := row_slice hr.rl
  obtain ⟨n, hn⟩ : ∃ n, T.length = n := ⟨_, rfl⟩
  have hki : (keys T).length = n := by rw [keys_len, hn]
  have hkl : (lefts T).length = n := by rw [lefts_len, hn]
  rw [hki, hkl] at hr
  have HR : Hid (RfC w base b (.slice pi n ci) (.slice pl n cl) (keys T) (lefts T)) := hr
  have HND : Hid ((keys T).Nodup) := hnd
  have HBS : Hid (base ≤ w.heap.size ∧ T.length = n ∧ n ≤ 1000) := ⟨hB, hn, by omega⟩
  have c0 : w.cell? ⟨b, 0, none⟩ = some (.slice pi n ci) := hr.blk.cell 0
  have hn1000 : n ≤ 1000 := by omega
  clear hr hnd hR hle hB hnz hTT
  go_enter Try.func18, Try.ntmps18
  go_wp2_with fail
  go_loopw [5] (fun v5 wr => ∃ i : Nat, v5 = .int .i64 i ∧ i ≤ n ∧ z ∉ (keys T).take i ∧ wr = w) (fun v5 _ => n - (intOf v5).toNat)
  case atStart => exact ⟨0, rfl, Nat.zero_le _, by simp, rfl⟩
  case round =>
    obtain ⟨i, rfl, hi, hnin, hw⟩ := hrel
    subst hw
    by_cases hlt : i < n
    · have hi1 : (i : Int) < (n : Int) := by omega
      have hik : i < (keys T).length := by omega
      have RRI : wr.ownsRow base 3 1 (.slice pi n ci) (keys T).length (cellsN (keys T)) := HR.out.ri
      obtain ⟨gi, rfl, _, hci⟩ := row_at RRI hik
      obtain ⟨y, hy⟩ : ∃ y, (keys T)[i] = y := ⟨_, rfl⟩
      replace hci : wr.cell? ⟨gi, i, none⟩ = some (.int .i64 y) := by rw [← hy]; exact hci
      have HYI : Hid ((keys T)[i]? = some y) := by
        show _ = _
        rw [List.getElem?_eq_getElem hik]
        exact congrArg some hy
      have HNX : Hid (y ≠ z → z ∉ (keys T).take (i + 1)) := fun hne hm => by
        rw [List.take_succ_eq_append_getElem hik, List.mem_append, List.mem_singleton] at hm
        rcases hm with hm | hm
        · exact hnin hm
        · exact hne (hy.symm.trans hm.symm)
      clear hy RRI hik
      by_cases hyz : y = z
      · have hyd : (y == z) = true := by simp [hyz]
        have HST : Hid (TT = T.take i ++ T.drop (i + 1)) := HNZ.out.2.symm.trans (stop_at HND.out (by rw [hn]; exact hlt) (hyz ▸ HYI.out))
        have HIN : Hid (nz = 0) := HIF.out.1 (by rw [← hyz]; exact List.mem_of_getElem? HYI.out)
        clear hnin HNX hyz
        go_wp2_with fail
        clear hci
        have RRW : wr.ownsRow base 3 1 (.slice (some ⟨gi, 0, none⟩) n ci) n (cellsN (keys T)) := by have := HR.out.ri; rw [hki] at this; exact this
        have hln : (cellsN (keys T)).length = n := by rw [cellsN_len, keys_len]; exact hn
        obtain ⟨x1, q1, e1⟩ := cut_hi ety_i RRW i (by omega)
        obtain ⟨x2, q2, e2⟩ := cut_lo ety_i RRW (i + 1) (by omega)
        rw [show ((i + 1 : Nat) : Int) = (i : Int) + 1 from by omega] at e2
        have HSL : Hid (Sc wr.drew x1 ((cellsN (keys T)).take i) ∧ Sc wr.drew x2 ((cellsN (keys T)).drop (i + 1))) := ⟨q1.over (Below.refl _ _).drew, q2.over (Below.refl _ _).drew⟩
        have E1 : Hid (∀ w, (Instr.sliceAt 32 (.slice (some ⟨gi, 0, none⟩) n ci) none (some (.int .i64 i)) none).run Try.prog w = .ok x1 w) := e1
        have E2 : Hid (∀ w, (Instr.sliceAt 32 (.slice (some ⟨gi, 0, none⟩) n ci) (some (.int .i64 ((i : Int) + 1))) none none).run Try.prog w = .ok x2 w) := e2
        have hwi : IntKind.i64.wrap ((i : Int) + 1) = (i : Int) + 1 := by rw [IntKind.wrap_i64]; omega
        have HLN : Hid ((cellsN (keys T)).length ≤ 1000) := by show (cellsN (keys T)).length ≤ 1000; omega
        have HONE : Hid (∀ u ∈ cellsN (keys T), u.oneCell' = true) := one_i _
        have HCB : Hid (∀ X, Below wr.drew.heap.size wr.drew X → X.cell? ⟨b, 0, none⟩ = some (.slice (some ⟨gi, 0, none⟩) n ci)) := fun X hX => ((HR.out.over (Below.refl _ _).drew).blk.over hX).cell 0
        have HFB : Hid (∀ X, Below wr.drew.heap.size wr.drew X → X.frozen? ⟨b, 0, none⟩ = false) := fun X hX => ((HR.out.over (Below.refl _ _).drew).blk.over hX).f 0
        have HOV : Hid (∀ X, Below wr.drew.heap.size wr.drew X → RfC X base b (.slice (some ⟨gi, 0, none⟩) n ci) (.slice pl n cl) (keys T) (lefts T) ∧ Below wr.heap.size wr X) := fun X hX => by
          have h1 : Below wr.heap.size wr X := (Below.refl _ _).drew.trans hX
          exact ⟨HR.out.over h1, h1⟩
        have HDS : Hid (base ≤ wr.drew.heap.size) := HBS.out.1
        have HLL : Hid (∀ g, (Value.slice pl n cl).ownBlock = some g → g < wr.drew.heap.size) := own_lt HR.out.rl
        clear RRW q1 q2 e1 e2 hln c0
        refine wp_region_late (E := [19]) (S := fun X => Below wr.drew.heap.size wr.drew X) (by kernel_rfl) (Below.refl _ _) (fun hHeld => ?_)
        simp only [List.size_toArray, List.length_cons, List.length_nil, Nat.reduceAdd]
        generalize wr.drew = wd at *
        refine wpAnyL_take [17, 18, 19] (i := 0) (v := ?_) (by kernel_rfl) (by kernel_rfl) (by kernel_rfl) rfl (by kernel_rfl) (by kernel_rfl) (by kernel_rfl) (fun _ _ _ h => h) (Or.inl ⟨by rfl, ?_⟩) hHeld ?_
        rotate_left
        · (intro w hSw; (try dsimp only at hSw); skip; go_simp; try with_reducible rfl)
        try simp only [Act.put, List.setIfInBounds_toArray, List.set_cons_zero, List.set_cons_succ, List.getElem_toArray, List.getElem_cons_zero]
        refine wpAnyL_take [3, 4, 5, 7, 8, 16, 19] (i := 2) (v := ?_) (by kernel_rfl) (by kernel_rfl) (by kernel_rfl) rfl (by kernel_rfl) (by kernel_rfl) (by kernel_rfl) (fun _ _ _ h => h) (Or.inl ⟨by rfl, ?_⟩) hHeld ?_
        rotate_left
        · (intro w hSw; (try dsimp only at hSw); skip; go_simp; try with_reducible rfl)
        try simp only [Act.put, List.setIfInBounds_toArray, List.set_cons_zero, List.set_cons_succ, List.getElem_toArray, List.getElem_cons_zero, List.getElem_cons_succ]
        refine wpAnyL_take [4, 5, 7, 8, 16, 19] (i := 3) (v := ?_) (by kernel_rfl) (by kernel_rfl) (by kernel_rfl) rfl (by kernel_rfl) (by kernel_rfl) (by kernel_rfl) (fun _ _ _ h => h) (Or.inl ⟨by rfl, ?_⟩) hHeld ?_
        rotate_left
        · (intro w hSw; (try dsimp only at hSw); skip; go_simp; try with_reducible rfl)
        try simp only [Act.put, List.setIfInBounds_toArray, List.set_cons_zero, List.set_cons_succ, List.getElem_toArray, List.getElem_cons_zero, List.getElem_cons_succ]
        refine wpAnyL_take [5, 7, 8, 16, 19] (i := 4) (v := ?_) (by kernel_rfl) (by kernel_rfl) (by kernel_rfl) rfl (by kernel_rfl) (by kernel_rfl) (by kernel_rfl) (fun _ _ _ h => h) (Or.inl ⟨by rfl, ?_⟩) hHeld ?_
        rotate_left
        · (intro w hSw; (try dsimp only at hSw); skip; go_simp; try with_reducible rfl)
        try simp only [Act.put, List.setIfInBounds_toArray, List.set_cons_zero, List.set_cons_succ, List.getElem_toArray, List.getElem_cons_zero, List.getElem_cons_succ]
        refine wpAnyL_take [7, 8, 16, 19] (i := 5) (v := ?_) (by kernel_rfl) (by kernel_rfl) (by kernel_rfl) rfl (by kernel_rfl) (by kernel_rfl) (by kernel_rfl) (fun _ _ _ h => h) (Or.inl ⟨by rfl, ?_⟩) hHeld ?_
        rotate_left
        · (intro w hSw; (try dsimp only at hSw); have hc := HCB.out _ hSw; go_simp; try with_reducible rfl)
        try simp only [Act.put, List.setIfInBounds_toArray, List.set_cons_zero, List.set_cons_succ, List.getElem_toArray, List.getElem_cons_zero, List.getElem_cons_succ]
        refine wpAnyL_take [7, 8, 16, 19] (i := 6) (v := ?_) (by kernel_rfl) (by kernel_rfl) (by kernel_rfl) rfl (by kernel_rfl) (by kernel_rfl) (by kernel_rfl) (fun _ _ _ h => h) (Or.inl ⟨by rfl, ?_⟩) hHeld ?_
        rotate_left
        · (intro w hSw; (try dsimp only at hSw); skip; go_simp; try with_reducible rfl)
        try simp only [Act.put, List.setIfInBounds_toArray, List.set_cons_zero, List.set_cons_succ, List.getElem_toArray, List.getElem_cons_zero, List.getElem_cons_succ]
        refine wpAnyL_take [8, 16, 19] (i := 7) (v := ?_) (by kernel_rfl) (by kernel_rfl) (by kernel_rfl) rfl (by kernel_rfl) (by kernel_rfl) (by kernel_rfl) (fun _ _ _ h => h) (Or.inl ⟨by rfl, ?_⟩) hHeld ?_
        rotate_left
        · (intro w hSw; (try dsimp only at hSw); have e1 := E1.out; go_simp; try with_reducible rfl)
        try simp only [Act.put, List.setIfInBounds_toArray, List.set_cons_zero, List.set_cons_succ, List.getElem_toArray, List.getElem_cons_zero, List.getElem_cons_succ]
        refine wpAnyL_take [10, 11, 12, 15, 16, 19] (i := 9) (v := ?_) (by kernel_rfl) (by kernel_rfl) (by kernel_rfl) rfl (by kernel_rfl) (by kernel_rfl) (by kernel_rfl) (fun _ _ _ h => h) (Or.inl ⟨by rfl, ?_⟩) hHeld ?_
        rotate_left
        · (intro w hSw; (try dsimp only at hSw); skip; go_simp; try with_reducible rfl)
        try simp only [Act.put, List.setIfInBounds_toArray, List.set_cons_zero, List.set_cons_succ, List.getElem_toArray, List.getElem_cons_zero, List.getElem_cons_succ]
        refine wpAnyL_take [11, 12, 15, 16, 19] (i := 10) (v := ?_) (by kernel_rfl) (by kernel_rfl) (by kernel_rfl) rfl (by kernel_rfl) (by kernel_rfl) (by kernel_rfl) (fun _ _ _ h => h) (Or.inl ⟨by rfl, ?_⟩) hHeld ?_
        rotate_left
        · (intro w hSw; (try dsimp only at hSw); skip; go_simp; try with_reducible rfl)
        try simp only [Act.put, List.setIfInBounds_toArray, List.set_cons_zero, List.set_cons_succ, List.getElem_toArray, List.getElem_cons_zero, List.getElem_cons_succ]
        refine wpAnyL_take [12, 15, 16, 19] (i := 11) (v := ?_) (by kernel_rfl) (by kernel_rfl) (by kernel_rfl) rfl (by kernel_rfl) (by kernel_rfl) (by kernel_rfl) (fun _ _ _ h => h) (Or.inl ⟨by rfl, ?_⟩) hHeld ?_
        rotate_left
        · (intro w hSw; (try dsimp only at hSw); skip; go_simp; try with_reducible rfl)
        try simp only [Act.put, List.setIfInBounds_toArray, List.set_cons_zero, List.set_cons_succ, List.getElem_toArray, List.getElem_cons_zero, List.getElem_cons_succ]
        refine wpAnyL_take [15, 16, 19] (i := 12) (v := ?_) (by kernel_rfl) (by kernel_rfl) (by kernel_rfl) rfl (by kernel_rfl) (by kernel_rfl) (by kernel_rfl) (fun _ _ _ h => h) (Or.inl ⟨by rfl, ?_⟩) hHeld ?_
        rotate_left
        · (intro w hSw; (try dsimp only at hSw); have hc := HCB.out _ hSw; go_simp; try with_reducible rfl)
        try simp only [Act.put, List.setIfInBounds_toArray, List.set_cons_zero, List.set_cons_succ, List.getElem_toArray, List.getElem_cons_zero, List.getElem_cons_succ]
        refine wpAnyL_take [14, 15, 16, 19] (i := 13) (v := ?_) (by kernel_rfl) (by kernel_rfl) (by kernel_rfl) rfl (by kernel_rfl) (by kernel_rfl) (by kernel_rfl) (fun _ _ _ h => h) (Or.inl ⟨by rfl, ?_⟩) hHeld ?_
        rotate_left
        · (intro w hSw; (try dsimp only at hSw); skip; go_simp; try with_reducible rfl)
        try simp only [Act.put, List.setIfInBounds_toArray, List.set_cons_zero, List.set_cons_succ, List.getElem_toArray, List.getElem_cons_zero, List.getElem_cons_succ]
        refine wpAnyL_take [15, 16, 19] (i := 14) (v := ?_) (by kernel_rfl) (by kernel_rfl) (by kernel_rfl) rfl (by kernel_rfl) (by kernel_rfl) (by kernel_rfl) (fun _ _ _ h => h) (Or.inl ⟨by rfl, ?_⟩) hHeld ?_
        rotate_left
        · (intro w hSw; (try dsimp only at hSw); skip; go_simp; try with_reducible rfl)
        try simp only [Act.put, List.setIfInBounds_toArray, List.set_cons_zero, List.set_cons_succ, List.getElem_toArray, List.getElem_cons_zero, List.getElem_cons_succ]
        refine wpAnyL_take [16, 19] (i := 15) (v := ?_) (by kernel_rfl) (by kernel_rfl) (by kernel_rfl) rfl (by kernel_rfl) (by kernel_rfl) (by kernel_rfl) (fun _ _ _ h => h) (Or.inl ⟨by rfl, ?_⟩) hHeld ?_
        rotate_left
        · (intro w hSw; (try dsimp only at hSw); have e2 := E2.out; go_simp; try with_reducible rfl)
        try simp only [Act.put, List.setIfInBounds_toArray, List.set_cons_zero, List.set_cons_succ, List.getElem_toArray, List.getElem_cons_zero, List.getElem_cons_succ]
        refine wpAnyL_one (i := 1) (by kernel_rfl) rfl (fun K hK => ?_)
        go_simp
        have s0 : Below wd.heap.size wd (wd.alloc (.cells #[] 3)) := hHeld.trans ((below_new _ _).mono hHeld.size)
        have R0 : Hid ((wd.alloc (.cells #[] 3)).ownsRow wd.heap.size 3 1 (.slice (some ⟨wd.heap.size, 0, none⟩) 0 0) 0 []) := row_fresh _ _
        refine hK.out _ _ (fun _ => s0) ?_
        replace hHeld := s0
        clear hK K
        try simp only [Act.put, List.setIfInBounds_toArray, List.set_cons_zero, List.set_cons_succ, List.getElem_toArray, List.getElem_cons_zero, List.getElem_cons_succ]
        refine wpAnyL_one (i := 8) (by kernel_rfl) rfl (fun K hK => ?_)
        refine step_app ety_i rfl _ _ rfl rfl rfl R0.out (Sc.over HSL.out.1 hHeld) (fun u hu => HONE.out u (List.mem_of_mem_take hu)) (by have := HLN.out; simp; omega) hHeld.size (fun v4 w4 ha4 => ?_)
        have s4 : Below wd.heap.size wd w4 := ha4.below R0.out hHeld
        have R4 : Hid (w4.ownsRow wd.heap.size 3 1 v4 ([] ++ (cellsN (keys T)).take i).length ([] ++ (cellsN (keys T)).take i)) := ha4.own
        clear ha4
        refine hK.out _ _ (fun _ => s4) ?_
        replace hHeld := s4
        clear hK K
        try simp only [Act.put, List.setIfInBounds_toArray, List.set_cons_zero, List.set_cons_succ, List.getElem_toArray, List.getElem_cons_zero, List.getElem_cons_succ]
        refine wpAnyL_one (i := 16) (by kernel_rfl) rfl (fun K hK => ?_)
        refine step_app ety_i rfl _ _ rfl rfl rfl R4.out (Sc.over HSL.out.2 hHeld) (fun u hu => HONE.out u (List.mem_of_mem_drop hu)) (by have := HLN.out; simp; omega) hHeld.size (fun v5 w5 ha5 => ?_)
        have s5 : Below wd.heap.size wd w5 := ha5.below R4.out hHeld
        have R5 : Hid (w5.ownsRow wd.heap.size 3 1 v5 ([] ++ (cellsN (keys T)).take i ++ (cellsN (keys T)).drop (i + 1)).length ([] ++ (cellsN (keys T)).take i ++ (cellsN (keys T)).drop (i + 1))) := ha5.own
        obtain ⟨p5, c5, hv5⟩ := (sc_row R5.out).form
        generalize ([] ++ (cellsN (keys T)).take i ++ (cellsN (keys T)).drop (i + 1)).length = n5 at *
        subst hv5
        have hcb : w5.cell? ⟨b, 0, none⟩ = some (.slice (some ⟨gi, 0, none⟩) n ci) := HCB.out _ s5
        have hfb : w5.frozen? ⟨b, 0, none⟩ = false := HFB.out _ s5
        clear ha5
        refine hK.out _ _ (fun _ => s5) ?_
        replace hHeld := s5
        clear hK K
        try simp only [Act.put, List.setIfInBounds_toArray, List.set_cons_zero, List.set_cons_succ, List.getElem_toArray, List.getElem_cons_zero, List.getElem_cons_succ]
        refine wpAnyL_take [18, 19] (i := 17) (v := ?_) (by kernel_rfl) (by kernel_rfl) (by kernel_rfl) rfl (by kernel_rfl) (by kernel_rfl) (by kernel_rfl) (fun _ _ _ h => h) (Or.inl ⟨by rfl, ?_⟩) hHeld ?_
        rotate_left
        · (intro w hSw; (try dsimp only at hSw); skip; go_simp; try with_reducible rfl)
        try simp only [Act.put, List.setIfInBounds_toArray, List.set_cons_zero, List.set_cons_succ, List.getElem_toArray, List.getElem_cons_zero, List.getElem_cons_succ]
        refine wpAnyL_take [19] (i := 18) (v := ?_) (by kernel_rfl) (by kernel_rfl) (by kernel_rfl) rfl (by kernel_rfl) (by kernel_rfl) (by kernel_rfl) (fun _ _ _ h => h) (Or.inl ⟨by rfl, ?_⟩) hHeld ?_
        rotate_left
        · (intro w hSw; (try dsimp only at hSw); skip; go_simp; try with_reducible rfl)
        try simp only [Act.put, List.setIfInBounds_toArray, List.set_cons_zero, List.set_cons_succ, List.getElem_toArray, List.getElem_cons_zero, List.getElem_cons_succ]
        refine wpAnyL_one (i := 19) (by kernel_rfl) rfl (fun K hK => ?_)
        try dsimp only at hHeld
        go_simp
        refine hK.out _ _ (fun h => by cases h) ?_
        clear hK K
        try simp only [Act.put, List.setIfInBounds_toArray, List.set_cons_zero, List.set_cons_succ, List.getElem_toArray, List.getElem_cons_zero, List.getElem_cons_succ]
        refine wpAnyL_done (by kernel_rfl) ?_ _
        have HM : Hid (RfC (w5.setCell ⟨b, 0, none⟩ (.slice p5 n5 c5)) base b (.slice p5 n5 c5) (.slice pl n cl) (keys (T.take i ++ T.drop (i + 1))) (lefts T) ∧ Fr [34] [] base wr (w5.setCell ⟨b, 0, none⟩ (.slice p5 n5 c5)) ∧ base ≤ (w5.setCell ⟨b, 0, none⟩ (.slice p5 n5 c5)).heap.size) := by
          obtain ⟨hc5, hb5⟩ := HOV.out w5 s5
          have hf : Fr [34] [] base w5 (w5.setCell ⟨b, 0, none⟩ (.slice p5 n5 c5)) := fr_set hc5.blk (by simp) hc5.bb
          have hr5 : w5.ownsRow base 3 1 (.slice p5 n5 c5) (keys (T.take i ++ T.drop (i + 1))).length (cellsN (keys (T.take i ++ T.drop (i + 1)))) := by
            have := R5.out
            rw [← cut_keys] at this
            have h2 := this.1
            rw [cellsN_len] at h2
            rw [show (keys (T.take i ++ T.drop (i + 1))).length = n5 by omega]
            exact owns_lower this HDS.out
          refine ⟨⟨hc5.bb, hc5.blk.set 0 _, owns_fr hr5 hf (by simp) (fun _ _ => by simp), owns_fr hc5.rl hf (by simp) (fun _ _ => by simp), fun g e1 e2 => ?_⟩, (fr_below hb5 HBS.out.1).trans hf, by simp; exact Nat.le_trans HBS.out.1 hb5.size⟩
          have h3 := owns_block R5.out g e1
          have h4 := HLL.out g e2
          omega
        clear R0 R4 R5 HSL E1 E2 HLN HONE HCB HFB HOV HDS HLL s5 hcb hfb
        go_wp2_with fail
        generalize (w5.setCell ⟨b, 0, none⟩ (.slice p5 n5 c5)) = W6 at *
        have RRW : W6.ownsRow base 3 1 (.slice pl n cl) n (cellsN (lefts T)) := by have := HM.out.1.rl; rw [hkl] at this; exact this
        have hln : (cellsN (lefts T)).length = n := by rw [cellsN_len, lefts_len]; exact hn
        obtain ⟨x1, q1, e1⟩ := cut_hi ety_i RRW i (by omega)
        obtain ⟨x2, q2, e2⟩ := cut_lo ety_i RRW (i + 1) (by omega)
        rw [show ((i + 1 : Nat) : Int) = (i : Int) + 1 from by omega] at e2
        have HSL : Hid (Sc W6.drew x1 ((cellsN (lefts T)).take i) ∧ Sc W6.drew x2 ((cellsN (lefts T)).drop (i + 1))) := ⟨q1.over (Below.refl _ _).drew, q2.over (Below.refl _ _).drew⟩
        have E1 : Hid (∀ w, (Instr.sliceAt 32 (.slice pl n cl) none (some (.int .i64 i)) none).run Try.prog w = .ok x1 w) := e1
        have E2 : Hid (∀ w, (Instr.sliceAt 32 (.slice pl n cl) (some (.int .i64 ((i : Int) + 1))) none none).run Try.prog w = .ok x2 w) := e2
        have hwi : IntKind.i64.wrap ((i : Int) + 1) = (i : Int) + 1 := by rw [IntKind.wrap_i64]; omega
        have HLN : Hid ((cellsN (lefts T)).length ≤ 1000) := by show (cellsN (lefts T)).length ≤ 1000; omega
        have HONE : Hid (∀ u ∈ cellsN (lefts T), u.oneCell' = true) := one_i _
        have HCB : Hid (∀ X, Below W6.drew.heap.size W6.drew X → X.cell? ⟨b, 1, none⟩ = some (.slice pl n cl)) := fun X hX => ((HM.out.1.over (Below.refl _ _).drew).blk.over hX).cell 1
        have HFB : Hid (∀ X, Below W6.drew.heap.size W6.drew X → X.frozen? ⟨b, 1, none⟩ = false) := fun X hX => ((HM.out.1.over (Below.refl _ _).drew).blk.over hX).f 1
        have HOV : Hid (∀ X, Below W6.drew.heap.size W6.drew X → RfC X base b (.slice p5 n5 c5) (.slice pl n cl) (keys (T.take i ++ T.drop (i + 1))) (lefts T) ∧ Below W6.heap.size W6 X) := fun X hX => by
          have h1 : Below W6.heap.size W6 X := (Below.refl _ _).drew.trans hX
          exact ⟨HM.out.1.over h1, h1⟩
        have HDS : Hid (base ≤ W6.drew.heap.size) := HM.out.2.2
        have HLL : Hid (∀ g, (Value.slice p5 n5 c5).ownBlock = some g → g < W6.drew.heap.size) := own_lt HM.out.1.ri
        clear RRW q1 q2 e1 e2 hln
        refine wp_region_late (E := [19]) (S := fun X => Below W6.drew.heap.size W6.drew X) (by kernel_rfl) (Below.refl _ _) (fun hHeld => ?_)
        simp only [List.size_toArray, List.length_cons, List.length_nil, Nat.reduceAdd]
        generalize W6.drew = wd at *
        refine wpAnyL_take [17, 18, 19] (i := 0) (v := ?_) (by kernel_rfl) (by kernel_rfl) (by kernel_rfl) rfl (by kernel_rfl) (by kernel_rfl) (by kernel_rfl) (fun _ _ _ h => h) (Or.inl ⟨by rfl, ?_⟩) hHeld ?_
        rotate_left
        · (intro w hSw; (try dsimp only at hSw); skip; go_simp; try with_reducible rfl)
        try simp only [Act.put, List.setIfInBounds_toArray, List.set_cons_zero, List.set_cons_succ, List.getElem_toArray, List.getElem_cons_zero]
        refine wpAnyL_take [3, 4, 5, 7, 8, 16, 19] (i := 2) (v := ?_) (by kernel_rfl) (by kernel_rfl) (by kernel_rfl) rfl (by kernel_rfl) (by kernel_rfl) (by kernel_rfl) (fun _ _ _ h => h) (Or.inl ⟨by rfl, ?_⟩) hHeld ?_
        rotate_left
        · (intro w hSw; (try dsimp only at hSw); skip; go_simp; try with_reducible rfl)
        try simp only [Act.put, List.setIfInBounds_toArray, List.set_cons_zero, List.set_cons_succ, List.getElem_toArray, List.getElem_cons_zero, List.getElem_cons_succ]
        refine wpAnyL_take [4, 5, 7, 8, 16, 19] (i := 3) (v := ?_) (by kernel_rfl) (by kernel_rfl) (by kernel_rfl) rfl (by kernel_rfl) (by kernel_rfl) (by kernel_rfl) (fun _ _ _ h => h) (Or.inl ⟨by rfl, ?_⟩) hHeld ?_
        rotate_left
        · (intro w hSw; (try dsimp only at hSw); skip; go_simp; try with_reducible rfl)
        try simp only [Act.put, List.setIfInBounds_toArray, List.set_cons_zero, List.set_cons_succ, List.getElem_toArray, List.getElem_cons_zero, List.getElem_cons_succ]
        refine wpAnyL_take [5, 7, 8, 16, 19] (i := 4) (v := ?_) (by kernel_rfl) (by kernel_rfl) (by kernel_rfl) rfl (by kernel_rfl) (by kernel_rfl) (by kernel_rfl) (fun _ _ _ h => h) (Or.inl ⟨by rfl, ?_⟩) hHeld ?_
        rotate_left
        · (intro w hSw; (try dsimp only at hSw); skip; go_simp; try with_reducible rfl)
        try simp only [Act.put, List.setIfInBounds_toArray, List.set_cons_zero, List.set_cons_succ, List.getElem_toArray, List.getElem_cons_zero, List.getElem_cons_succ]
        refine wpAnyL_take [7, 8, 16, 19] (i := 5) (v := ?_) (by kernel_rfl) (by kernel_rfl) (by kernel_rfl) rfl (by kernel_rfl) (by kernel_rfl) (by kernel_rfl) (fun _ _ _ h => h) (Or.inl ⟨by rfl, ?_⟩) hHeld ?_
        rotate_left
        · (intro w hSw; (try dsimp only at hSw); have hc := HCB.out _ hSw; go_simp; try with_reducible rfl)
        try simp only [Act.put, List.setIfInBounds_toArray, List.set_cons_zero, List.set_cons_succ, List.getElem_toArray, List.getElem_cons_zero, List.getElem_cons_succ]
        refine wpAnyL_take [7, 8, 16, 19] (i := 6) (v := ?_) (by kernel_rfl) (by kernel_rfl) (by kernel_rfl) rfl (by kernel_rfl) (by kernel_rfl) (by kernel_rfl) (fun _ _ _ h => h) (Or.inl ⟨by rfl, ?_⟩) hHeld ?_
        rotate_left
        · (intro w hSw; (try dsimp only at hSw); skip; go_simp; try with_reducible rfl)
        try simp only [Act.put, List.setIfInBounds_toArray, List.set_cons_zero, List.set_cons_succ, List.getElem_toArray, List.getElem_cons_zero, List.getElem_cons_succ]
        refine wpAnyL_take [8, 16, 19] (i := 7) (v := ?_) (by kernel_rfl) (by kernel_rfl) (by kernel_rfl) rfl (by kernel_rfl) (by kernel_rfl) (by kernel_rfl) (fun _ _ _ h => h) (Or.inl ⟨by rfl, ?_⟩) hHeld ?_
        rotate_left
        · (intro w hSw; (try dsimp only at hSw); have e1 := E1.out; go_simp; try with_reducible rfl)
        try simp only [Act.put, List.setIfInBounds_toArray, List.set_cons_zero, List.set_cons_succ, List.getElem_toArray, List.getElem_cons_zero, List.getElem_cons_succ]
        refine wpAnyL_take [10, 11, 12, 15, 16, 19] (i := 9) (v := ?_) (by kernel_rfl) (by kernel_rfl) (by kernel_rfl) rfl (by kernel_rfl) (by kernel_rfl) (by kernel_rfl) (fun _ _ _ h => h) (Or.inl ⟨by rfl, ?_⟩) hHeld ?_
        rotate_left
        · (intro w hSw; (try dsimp only at hSw); skip; go_simp; try with_reducible rfl)
        try simp only [Act.put, List.setIfInBounds_toArray, List.set_cons_zero, List.set_cons_succ, List.getElem_toArray, List.getElem_cons_zero, List.getElem_cons_succ]
        refine wpAnyL_take [11, 12, 15, 16, 19] (i := 10) (v := ?_) (by kernel_rfl) (by kernel_rfl) (by kernel_rfl) rfl (by kernel_rfl) (by kernel_rfl) (by kernel_rfl) (fun _ _ _ h => h) (Or.inl ⟨by rfl, ?_⟩) hHeld ?_
        rotate_left
        · (intro w hSw; (try dsimp only at hSw); skip; go_simp; try with_reducible rfl)
        try simp only [Act.put, List.setIfInBounds_toArray, List.set_cons_zero, List.set_cons_succ, List.getElem_toArray, List.getElem_cons_zero, List.getElem_cons_succ]
        refine wpAnyL_take [12, 15, 16, 19] (i := 11) (v := ?_) (by kernel_rfl) (by kernel_rfl) (by kernel_rfl) rfl (by kernel_rfl) (by kernel_rfl) (by kernel_rfl) (fun _ _ _ h => h) (Or.inl ⟨by rfl, ?_⟩) hHeld ?_
        rotate_left
        · (intro w hSw; (try dsimp only at hSw); skip; go_simp; try with_reducible rfl)
        try simp only [Act.put, List.setIfInBounds_toArray, List.set_cons_zero, List.set_cons_succ, List.getElem_toArray, List.getElem_cons_zero, List.getElem_cons_succ]
        refine wpAnyL_take [15, 16, 19] (i := 12) (v := ?_) (by kernel_rfl) (by kernel_rfl) (by kernel_rfl) rfl (by kernel_rfl) (by kernel_rfl) (by kernel_rfl) (fun _ _ _ h => h) (Or.inl ⟨by rfl, ?_⟩) hHeld ?_
        rotate_left
        · (intro w hSw; (try dsimp only at hSw); have hc := HCB.out _ hSw; go_simp; try with_reducible rfl)
        try simp only [Act.put, List.setIfInBounds_toArray, List.set_cons_zero, List.set_cons_succ, List.getElem_toArray, List.getElem_cons_zero, List.getElem_cons_succ]
        refine wpAnyL_take [14, 15, 16, 19] (i := 13) (v := ?_) (by kernel_rfl) (by kernel_rfl) (by kernel_rfl) rfl (by kernel_rfl) (by kernel_rfl) (by kernel_rfl) (fun _ _ _ h => h) (Or.inl ⟨by rfl, ?_⟩) hHeld ?_
        rotate_left
        · (intro w hSw; (try dsimp only at hSw); skip; go_simp; try with_reducible rfl)
        try simp only [Act.put, List.setIfInBounds_toArray, List.set_cons_zero, List.set_cons_succ, List.getElem_toArray, List.getElem_cons_zero, List.getElem_cons_succ]
        refine wpAnyL_take [15, 16, 19] (i := 14) (v := ?_) (by kernel_rfl) (by kernel_rfl) (by kernel_rfl) rfl (by kernel_rfl) (by kernel_rfl) (by kernel_rfl) (fun _ _ _ h => h) (Or.inl ⟨by rfl, ?_⟩) hHeld ?_
        rotate_left
        · (intro w hSw; (try dsimp only at hSw); skip; go_simp; try with_reducible rfl)
        try simp only [Act.put, List.setIfInBounds_toArray, List.set_cons_zero, List.set_cons_succ, List.getElem_toArray, List.getElem_cons_zero, List.getElem_cons_succ]
        refine wpAnyL_take [16, 19] (i := 15) (v := ?_) (by kernel_rfl) (by kernel_rfl) (by kernel_rfl) rfl (by kernel_rfl) (by kernel_rfl) (by kernel_rfl) (fun _ _ _ h => h) (Or.inl ⟨by rfl, ?_⟩) hHeld ?_
        rotate_left
        · (intro w hSw; (try dsimp only at hSw); have e2 := E2.out; go_simp; try with_reducible rfl)
        try simp only [Act.put, List.setIfInBounds_toArray, List.set_cons_zero, List.set_cons_succ, List.getElem_toArray, List.getElem_cons_zero, List.getElem_cons_succ]
        refine wpAnyL_one (i := 1) (by kernel_rfl) rfl (fun K hK => ?_)
        go_simp
        have s0 : Below wd.heap.size wd (wd.alloc (.cells #[] 3)) := hHeld.trans ((below_new _ _).mono hHeld.size)
        have R0 : Hid ((wd.alloc (.cells #[] 3)).ownsRow wd.heap.size 3 1 (.slice (some ⟨wd.heap.size, 0, none⟩) 0 0) 0 []) := row_fresh _ _
        refine hK.out _ _ (fun _ => s0) ?_
        replace hHeld := s0
        clear hK K
        try simp only [Act.put, List.setIfInBounds_toArray, List.set_cons_zero, List.set_cons_succ, List.getElem_toArray, List.getElem_cons_zero, List.getElem_cons_succ]
        refine wpAnyL_one (i := 8) (by kernel_rfl) rfl (fun K hK => ?_)
        refine step_app ety_i rfl _ _ rfl rfl rfl R0.out (Sc.over HSL.out.1 hHeld) (fun u hu => HONE.out u (List.mem_of_mem_take hu)) (by have := HLN.out; simp; omega) hHeld.size (fun v7 w7 ha7 => ?_)
        have s7 : Below wd.heap.size wd w7 := ha7.below R0.out hHeld
        have R7 : Hid (w7.ownsRow wd.heap.size 3 1 v7 ([] ++ (cellsN (lefts T)).take i).length ([] ++ (cellsN (lefts T)).take i)) := ha7.own
        clear ha7
        refine hK.out _ _ (fun _ => s7) ?_
        replace hHeld := s7
        clear hK K
        try simp only [Act.put, List.setIfInBounds_toArray, List.set_cons_zero, List.set_cons_succ, List.getElem_toArray, List.getElem_cons_zero, List.getElem_cons_succ]
        refine wpAnyL_one (i := 16) (by kernel_rfl) rfl (fun K hK => ?_)
        refine step_app ety_i rfl _ _ rfl rfl rfl R7.out (Sc.over HSL.out.2 hHeld) (fun u hu => HONE.out u (List.mem_of_mem_drop hu)) (by have := HLN.out; simp; omega) hHeld.size (fun v8 w8 ha8 => ?_)
        have s8 : Below wd.heap.size wd w8 := ha8.below R7.out hHeld
        have R8 : Hid (w8.ownsRow wd.heap.size 3 1 v8 ([] ++ (cellsN (lefts T)).take i ++ (cellsN (lefts T)).drop (i + 1)).length ([] ++ (cellsN (lefts T)).take i ++ (cellsN (lefts T)).drop (i + 1))) := ha8.own
        obtain ⟨p8, c8, hv8⟩ := (sc_row R8.out).form
        generalize ([] ++ (cellsN (lefts T)).take i ++ (cellsN (lefts T)).drop (i + 1)).length = n8 at *
        subst hv8
        have hcb : w8.cell? ⟨b, 1, none⟩ = some (.slice pl n cl) := HCB.out _ s8
        have hfb : w8.frozen? ⟨b, 1, none⟩ = false := HFB.out _ s8
        clear ha8
        refine hK.out _ _ (fun _ => s8) ?_
        replace hHeld := s8
        clear hK K
        try simp only [Act.put, List.setIfInBounds_toArray, List.set_cons_zero, List.set_cons_succ, List.getElem_toArray, List.getElem_cons_zero, List.getElem_cons_succ]
        refine wpAnyL_take [18, 19] (i := 17) (v := ?_) (by kernel_rfl) (by kernel_rfl) (by kernel_rfl) rfl (by kernel_rfl) (by kernel_rfl) (by kernel_rfl) (fun _ _ _ h => h) (Or.inl ⟨by rfl, ?_⟩) hHeld ?_
        rotate_left
        · (intro w hSw; (try dsimp only at hSw); skip; go_simp; try with_reducible rfl)
        try simp only [Act.put, List.setIfInBounds_toArray, List.set_cons_zero, List.set_cons_succ, List.getElem_toArray, List.getElem_cons_zero, List.getElem_cons_succ]
        refine wpAnyL_take [19] (i := 18) (v := ?_) (by kernel_rfl) (by kernel_rfl) (by kernel_rfl) rfl (by kernel_rfl) (by kernel_rfl) (by kernel_rfl) (fun _ _ _ h => h) (Or.inl ⟨by rfl, ?_⟩) hHeld ?_
        rotate_left
        · (intro w hSw; (try dsimp only at hSw); skip; go_simp; try with_reducible rfl)
        try simp only [Act.put, List.setIfInBounds_toArray, List.set_cons_zero, List.set_cons_succ, List.getElem_toArray, List.getElem_cons_zero, List.getElem_cons_succ]
        refine wpAnyL_one (i := 19) (by kernel_rfl) rfl (fun K hK => ?_)
        try dsimp only at hHeld
        go_simp
        refine hK.out _ _ (fun h => by cases h) ?_
        clear hK K
        try simp only [Act.put, List.setIfInBounds_toArray, List.set_cons_zero, List.set_cons_succ, List.getElem_toArray, List.getElem_cons_zero, List.getElem_cons_succ]
        refine wpAnyL_done (by kernel_rfl) ?_ _
        have HQ : Hid (RfC (w8.setCell ⟨b, 1, none⟩ (.slice p8 n8 c8)) base b (.slice p5 n5 c5) (.slice p8 n8 c8) (keys (T.take i ++ T.drop (i + 1))) (lefts (T.take i ++ T.drop (i + 1))) ∧ Fr [34] [] base wr (w8.setCell ⟨b, 1, none⟩ (.slice p8 n8 c8))) := by
          obtain ⟨hc8, hb8⟩ := HOV.out w8 s8
          have hf : Fr [34] [] base w8 (w8.setCell ⟨b, 1, none⟩ (.slice p8 n8 c8)) := fr_set hc8.blk (by simp) hc8.bb
          have hr8 : w8.ownsRow base 3 1 (.slice p8 n8 c8) (lefts (T.take i ++ T.drop (i + 1))).length (cellsN (lefts (T.take i ++ T.drop (i + 1)))) := by
            have := R8.out
            rw [← cut_lefts] at this
            have h2 := this.1
            rw [cellsN_len] at h2
            rw [show (lefts (T.take i ++ T.drop (i + 1))).length = n8 by omega]
            exact owns_lower this HDS.out
          refine ⟨⟨hc8.bb, hc8.blk.set 1 _, owns_fr hc8.ri hf (by simp) (fun _ _ => by simp), owns_fr hr8 hf (by simp) (fun _ _ => by simp), fun g e1 e2 => ?_⟩, HM.out.2.1.trans ((fr_below hb8 HM.out.2.2).trans hf)⟩
          have h3 := owns_block R8.out g e2
          have h4 := HLL.out g e1
          omega
        go_wp2_with fail
        go_ret
        exact ⟨by rw [HIN.out]; rfl, by rw [HST.out]; exact ⟨_, _, HQ.out.1⟩, HQ.out.2⟩
      · have hyd : (y == z) = false := by simp [hyz]
        have HX : Hid (z ∉ (keys T).take (i + 1)) := HNX.out hyz
        clear HNX hyz
        go_wp2_with fail
        go_roundw
        case rel => exact ⟨i + 1, by go_num, hlt, HX.out, by trivial⟩
        case measure => simp [intOf]; omega
    · have hi1 : ¬ (i : Int) < (n : Int) := by omega
      have hnk : z ∉ keys T := fun hm => hnin (by rw [List.take_of_length_le (by omega)]; exact hm)
      have HIN : Hid (nz = 17 ∧ TT = T) := ⟨HIF.out.2 hnk, HNZ.out.2.symm.trans (stopT_not hnk)⟩
      clear hnin hnk
      go_wp2_with fail
      go_ret
      exact ⟨by rw [HIN.out.1]; rfl, by rw [HIN.out.2]; exact ⟨_, _, HR.out⟩, Fr.refl _ _ _ _⟩

end Go.Proofs.Ytcenjdpochjclaa
