/-
  The document's Reply.
-/
import Derived.Test.YtlckconhhhllkaaRSend
namespace Go.Proofs.Ytlckconhhhllkaa
open Go.RowKit

theorem reply_k {s : Nt} {ep id k v : Int} (h : replyE s ep id k ≠ 0) : replyS s ep id k v = s := if_neg h

set_option maxHeartbeats 8000000 in
theorem rreply_any (w : World) (base b : Nat) (s : Nt) (ep id k v : Int) (h : RfT w base b s) (ho : Ok s) (hB : base ≤ w.heap.size) :
    Calls Try.prog 25 #[.pointer (some ⟨b, 0, none⟩), .int .u64 ep, .int .u64 id, .agg #[.int .i64 k, .int .i64 v]] w fun e w' => RE w base b (replyS s ep id k v) (.int .i64 (replyE s ep id k)) e w' := by
  obtain ⟨vv, h⟩ := h
  obtain ⟨pv, cv, rfl⟩ := rowS_slice h.row
  obtain ⟨n, hnn⟩ : ∃ n, s.L.length = n := ⟨_, rfl⟩
  have hn8 : n ≤ 8 := by have := ho.len; have := ho.z1; omega
  rw [hnn] at h
  have HR : Hid ((RfC (w.alloc (.cells #[.int .i64 k, .int .i64 v] 35)) base b (.slice pv n cv) s ∧ RfT (w.alloc (.cells #[.int .i64 k, .int .i64 v] 35)) base b s) ∧ Fr [44] [] base w (w.alloc (.cells #[.int .i64 k, .int .i64 v] 35)) ∧ Blk (w.alloc (.cells #[.int .i64 k, .int .i64 v] 35)) w.heap.size 35 [.int .i64 k, .int .i64 v]) := ⟨⟨h.over (below_new w _), ⟨_, h.over (below_new w _)⟩⟩, fr_below (below_new w _) hB, blk_new _ _ _⟩
  have HNN : Hid (s.L.length = n ∧ Ok s) := ⟨hnn, ho⟩
  obtain ⟨RSx, hRS⟩ : ∃ t, replyS s ep id k v = t := ⟨_, rfl⟩
  obtain ⟨REx, hRE⟩ : ∃ t, replyE s ep id k = t := ⟨_, rfl⟩
  have HRS : Hid (replyS s ep id k v = RSx ∧ replyE s ep id k = REx) := ⟨hRS, hRE⟩
  rw [hRS, hRE]
  clear h hnn hB ho hRS hRE
  go_enter Try.func25, Try.ntmps25
  go_upto_region 1 with fail
  generalize (w.alloc (.cells #[.int .i64 k, .int .i64 v] 35)) = w1 at *
  generalize w.heap.size = bo at *
  go_wp2_with fail
  refine (rat_any w1 base b _ s id HR.out.1.1 (by have := HNN.out.1; omega)).mono ?_
  rintro e w2 ⟨hat, hw2⟩
  subst hw2
  have c0 : w2.cell? ⟨b, 0, none⟩ = some (.slice pv n cv) := HR.out.1.1.blk.cell 0
  have c4 := HR.out.1.1.blk.cell 4
  have k0 := HR.out.2.2.cell 0
  have k1 := HR.out.2.2.cell 1
  by_cases hep : ep = s.ep
  · have r1 : (ep != s.ep) = false := by simp [hep]
    have r2 : (ep == s.ep) = true := by simp [hep]
    have HEP : Hid (ep = s.ep) := hep
    clear hep
    rcases hat with ⟨i, hi, hid, hfi, rfl⟩ | ⟨hfi, rfl⟩
    · have hrow := HR.out.1.1.row
      rw [HNN.out.1] at hrow
      obtain ⟨g, rfl, _, hce⟩ := rowE_at hrow hi
      have x2 := hce 2 _ rfl
      have x4 := hce 4 _ rfl
      have x5 := hce 5 _ rfl
      have HFI : Hid (findI s.L id = some s.L[i] ∧ (s.L[i]).id = id) := ⟨hfi, hid⟩
      have HGI : Hid (s.L[i]? = some s.L[i]) := List.getElem?_eq_getElem hi
      have HRSET : Hid ((s.L.map fun x => if x.id = (s.L[i]).id then x.told k v else x) = s.L.set i ((s.L[i]).told k v)) := reply_set HNN.out.2 hi k v
      have hin : (i : Int) < (n : Int) := by have := HNN.out.1; omega
      have hi8 : i < 8 := by omega
      have r3 : decide ((i : Int) < 0) = false := decide_eq_false (by omega)
      clear hrow hce hid hfi
      generalize s.L[i] = q at *
      clear hi
      obtain ⟨q1, q2, q3, q4, q5, q6⟩ := q
      dsimp only at x2 x4 x5
      by_cases h2 : q3 = 2
      · have r4 : (q3 != 2) = false := by simp [h2]
        have r5 : (q3 == 2) = true := by simp [h2]
        by_cases hk1 : k < 1
        · have r6 : decide (k < 1) = true := decide_eq_true hk1
          have HE : replyE s ep id k = 1 := by
            unfold replyE
            rw [if_neg (by rw [HEP.out]; simp), HFI.out.1]
            show (if q3 ≠ 2 then (18 : Int) else if k < 1 ∨ 3 < k then 1 else 0) = 1
            rw [if_neg (by omega), if_pos (by omega)]
          have HK : Hid (RSx = s ∧ REx = 1) := ⟨by rw [← HRS.out.1]; exact reply_k (by rw [HE]; omega), by rw [← HRS.out.2]; exact HE⟩
          clear HE h2 hk1 HFI HGI HRSET
          go_wp2_with fail
          go_ret
          exact ⟨by rw [HK.out.2]; rfl, by rw [HK.out.1]; exact HR.out.1.2, HR.out.2.1.mono (by simp) (by simp)⟩
        · have r6 : decide (k < 1) = false := decide_eq_false hk1
          by_cases hk3 : 3 < k
          · have r7 : decide (3 < k) = true := decide_eq_true hk3
            have HE : replyE s ep id k = 1 := by
              unfold replyE
              rw [if_neg (by rw [HEP.out]; simp), HFI.out.1]
              show (if q3 ≠ 2 then (18 : Int) else if k < 1 ∨ 3 < k then 1 else 0) = 1
              rw [if_neg (by omega), if_pos (by omega)]
            have HK : Hid (RSx = s ∧ REx = 1) := ⟨by rw [← HRS.out.1]; exact reply_k (by rw [HE]; omega), by rw [← HRS.out.2]; exact HE⟩
            clear HE h2 hk1 hk3 HFI HGI HRSET
            go_wp2_with fail
            go_ret
            exact ⟨by rw [HK.out.2]; rfl, by rw [HK.out.1]; exact HR.out.1.2, HR.out.2.1.mono (by simp) (by simp)⟩
          · have r7 : decide (3 < k) = false := decide_eq_false hk3
            have HE : replyE s ep id k = 0 := by
              unfold replyE
              rw [if_neg (by rw [HEP.out]; simp), HFI.out.1]
              show (if q3 ≠ 2 then (18 : Int) else if k < 1 ∨ 3 < k then 1 else 0) = 0
              rw [if_neg (by omega), if_neg (by omega)]
            have HK : Hid (RSx = { s with L := s.L.set i ⟨q1, q2, 3, q4, k, v⟩ } ∧ REx = 0) := by
              refine ⟨?_, by rw [← HRS.out.2]; exact HE⟩
              rw [← HRS.out.1]
              unfold replyS
              rw [if_pos HE]
              have h9 := HRSET.out
              have h10 := HFI.out.2
              dsimp only at h9 h10
              rw [h10] at h9
              rw [h9, ← h10]
              rfl
            have f2 := own_free HR.out.1.1.row (i * 6 + 2)
            have HC := HR.out.1.1.cell (j := 2) (u := .int .i64 3) (x := ⟨q1, q2, q3, q4, q5, q6⟩) (y := ⟨q1, q2, 3, q4, q5, q6⟩) HNN.out.1 HGI.out (by decide) rfl
            have HIL : Hid (i < s.L.length) := by have := HNN.out.1; show i < s.L.length; omega
            have hgo : g ≠ bo := by
              intro e
              have h1 := HR.out.2.2
              have h3 := HR.out.1.1.row
              rcases h3.2 with ⟨e2, _⟩ | ⟨g', cap', cur, e2, _, hh, _⟩
              · cases e2
              · cases e2
                rw [e] at hh
                unfold Blk at h1
                rw [h1] at hh
                simp at hh
            have HCC : Hid (RfC (w2.setCell ⟨g, i * 6 + 2, none⟩ (.int .i64 3)) base b (.slice (some ⟨g, 0, none⟩) n cv) { s with L := s.L.set i ⟨q1, q2, 3, q4, q5, q6⟩ } ∧ Fr [44] [] base w (w2.setCell ⟨g, i * 6 + 2, none⟩ (.int .i64 3)) ∧ Blk (w2.setCell ⟨g, i * 6 + 2, none⟩ (.int .i64 3)) bo 35 [.int .i64 k, .int .i64 v] ∧ (w2.setCell ⟨g, i * 6 + 2, none⟩ (.int .i64 3)).cell? ⟨g, i * 6 + 4, none⟩ = some (.int .i64 q5) ∧ (w2.setCell ⟨g, i * 6 + 2, none⟩ (.int .i64 3)).cell? ⟨g, i * 6 + 5, none⟩ = some (.int .i64 q6)) := by
              have hr := HC.1.row
              have hl : (s.L.set i (⟨q1, q2, 3, q4, q5, q6⟩ : En)).length = n := by rw [List.length_set]; exact HNN.out.1
              replace hr : World.ownsRow _ base 44 6 _ (s.L.set i (⟨q1, q2, 3, q4, q5, q6⟩ : En)).length (cellsE (s.L.set i ⟨q1, q2, 3, q4, q5, q6⟩)) := hr
              rw [hl] at hr
              have hil : i < (s.L.set i (⟨q1, q2, 3, q4, q5, q6⟩ : En)).length := by rw [List.length_set]; exact HIL.out
              obtain ⟨g', e', _, hc⟩ := rowE_at hr hil
              cases e'
              exact ⟨HC.1, HR.out.2.1.trans HC.2, HR.out.2.2.other _ _ (fun e => hgo e.symm), hc 4 _ (by rw [List.getElem_set_self]; rfl), hc 5 _ (by rw [List.getElem_set_self]; rfl)⟩
            clear HE h2 hk1 hk3 HFI HGI HRSET HC
            go_upto_region 11 with fail
            generalize (w2.setCell ⟨g, i * 6 + 2, none⟩ (.int .i64 3)) = W3 at *
            have HD : Hid (RfC W3.drew base b (.slice (some ⟨g, 0, none⟩) n cv) { s with L := s.L.set i ⟨q1, q2, 3, q4, q5, q6⟩ } ∧ Fr [44] [] base w W3.drew) := ⟨HCC.out.1.over (Below.refl _ _).drew, ⟨HCC.out.2.1.bel.drew, HCC.out.2.1.blk⟩⟩
            have d0 : W3.drew.cell? ⟨b, 0, none⟩ = some (.slice (some ⟨g, 0, none⟩) n cv) := HD.out.1.blk.cell 0
            have d1 : W3.drew.cell? ⟨bo, 0, none⟩ = some (.int .i64 k) := HCC.out.2.2.1.cell 0
            have d2 : W3.drew.cell? ⟨bo, 1, none⟩ = some (.int .i64 v) := HCC.out.2.2.1.cell 1
            have d3 : W3.drew.cell? ⟨g, i * 6 + 4, none⟩ = some (.int .i64 q5) := HCC.out.2.2.2.1
            have d4 : W3.drew.cell? ⟨g, i * 6 + 5, none⟩ = some (.int .i64 q6) := HCC.out.2.2.2.2
            have d5 := own_free HD.out.1.row (i * 6 + 4)
            have d6 := own_free HD.out.1.row (i * 6 + 5)
            clear c0 c4 k0 k1 x2 x4 x5 HCC f2
            refine wp_region_late (E := [8]) (S := fun X => X = W3.drew) (by kernel_rfl) (rfl) (fun hHeld => ?_)
            simp only [List.size_toArray, List.length_cons, List.length_nil, Nat.reduceAdd]
            generalize W3.drew = wd at *
            refine wpAnyL_take [1, 2, 3, 6, 7, 8] (i := 0) (v := ?_) (by kernel_rfl) (by kernel_rfl) (by kernel_rfl) rfl (by kernel_rfl) (by kernel_rfl) (by kernel_rfl) (fun _ _ _ h => h) (Or.inl ⟨by rfl, ?_⟩) hHeld ?_
            rotate_left
            · (intro w hSw; (try dsimp only at hSw); rw [hSw]; go_simp; try with_reducible rfl)
            try simp only [Act.put, List.setIfInBounds_toArray, List.set_cons_zero, List.set_cons_succ, List.getElem_toArray, List.getElem_cons_zero]
            refine wpAnyL_take [2, 3, 6, 7, 8] (i := 1) (v := ?_) (by kernel_rfl) (by kernel_rfl) (by kernel_rfl) rfl (by kernel_rfl) (by kernel_rfl) (by kernel_rfl) (fun _ _ _ h => h) (Or.inl ⟨by rfl, ?_⟩) hHeld ?_
            rotate_left
            · (intro w hSw; (try dsimp only at hSw); rw [hSw]; go_simp; try with_reducible rfl)
            try simp only [Act.put, List.setIfInBounds_toArray, List.set_cons_zero, List.set_cons_succ, List.getElem_toArray, List.getElem_cons_zero, List.getElem_cons_succ]
            refine wpAnyL_take [3, 6, 7, 8] (i := 2) (v := ?_) (by kernel_rfl) (by kernel_rfl) (by kernel_rfl) rfl (by kernel_rfl) (by kernel_rfl) (by kernel_rfl) (fun _ _ _ h => h) (Or.inl ⟨by rfl, ?_⟩) hHeld ?_
            rotate_left
            · (intro w hSw; (try dsimp only at hSw); rw [hSw]; go_simp; try with_reducible rfl)
            try simp only [Act.put, List.setIfInBounds_toArray, List.set_cons_zero, List.set_cons_succ, List.getElem_toArray, List.getElem_cons_zero, List.getElem_cons_succ]
            refine wpAnyL_take [6, 7, 8] (i := 3) (v := ?_) (by kernel_rfl) (by kernel_rfl) (by kernel_rfl) rfl (by kernel_rfl) (by kernel_rfl) (by kernel_rfl) (fun _ _ _ h => h) (Or.inl ⟨by rfl, ?_⟩) hHeld ?_
            rotate_left
            · (intro w hSw; (try dsimp only at hSw); rw [hSw]; go_simp; try with_reducible rfl)
            try simp only [Act.put, List.setIfInBounds_toArray, List.set_cons_zero, List.set_cons_succ, List.getElem_toArray, List.getElem_cons_zero, List.getElem_cons_succ]
            refine wpAnyL_take [6, 7, 8] (i := 4) (v := ?_) (by kernel_rfl) (by kernel_rfl) (by kernel_rfl) rfl (by kernel_rfl) (by kernel_rfl) (by kernel_rfl) (fun _ _ _ h => h) (Or.inl ⟨by rfl, ?_⟩) hHeld ?_
            rotate_left
            · (intro w hSw; (try dsimp only at hSw); rw [hSw]; go_simp; try with_reducible rfl)
            try simp only [Act.put, List.setIfInBounds_toArray, List.set_cons_zero, List.set_cons_succ, List.getElem_toArray, List.getElem_cons_zero, List.getElem_cons_succ]
            refine wpAnyL_take [8] (i := 5) (v := ?_) (by kernel_rfl) (by kernel_rfl) (by kernel_rfl) rfl (by kernel_rfl) (by kernel_rfl) (by kernel_rfl) (fun _ _ _ h => h) (Or.inl ⟨by rfl, ?_⟩) hHeld ?_
            rotate_left
            · (intro w hSw; (try dsimp only at hSw); rw [hSw]; go_simp; try with_reducible rfl)
            try simp only [Act.put, List.setIfInBounds_toArray, List.set_cons_zero, List.set_cons_succ, List.getElem_toArray, List.getElem_cons_zero, List.getElem_cons_succ]
            refine wpAnyL_take [7, 8] (i := 6) (v := ?_) (by kernel_rfl) (by kernel_rfl) (by kernel_rfl) rfl (by kernel_rfl) (by kernel_rfl) (by kernel_rfl) (fun _ _ _ h => h) (Or.inl ⟨by rfl, ?_⟩) hHeld ?_
            rotate_left
            · (intro w hSw; (try dsimp only at hSw); rw [hSw]; go_simp; try with_reducible rfl)
            try simp only [Act.put, List.setIfInBounds_toArray, List.set_cons_zero, List.set_cons_succ, List.getElem_toArray, List.getElem_cons_zero, List.getElem_cons_succ]
            refine wpAnyL_take [8] (i := 7) (v := ?_) (by kernel_rfl) (by kernel_rfl) (by kernel_rfl) rfl (by kernel_rfl) (by kernel_rfl) (by kernel_rfl) (fun _ _ _ h => h) (Or.inl ⟨by rfl, ?_⟩) hHeld ?_
            rotate_left
            · (intro w hSw; (try dsimp only at hSw); rw [hSw]; go_simp; try with_reducible rfl)
            try simp only [Act.put, List.setIfInBounds_toArray, List.set_cons_zero, List.set_cons_succ, List.getElem_toArray, List.getElem_cons_zero, List.getElem_cons_succ]
            refine wpAnyL_one (i := 8) (by kernel_rfl) rfl (fun K hK => ?_)
            go_simp
            refine hK.out _ _ (fun h => by cases h) ?_
            clear hK K
            try simp only [Act.put, List.setIfInBounds_toArray, List.set_cons_zero, List.set_cons_succ, List.getElem_toArray, List.getElem_cons_zero, List.getElem_cons_succ]
            refine wpAnyL_done (by kernel_rfl) ?_ _
            have HF : Hid (RfC ((wd.setCell ⟨g, i * 6 + 4, none⟩ (.int .i64 k)).setCell ⟨g, i * 6 + 5, none⟩ (.int .i64 v)) base b (.slice (some ⟨g, 0, none⟩) n cv) { s with L := s.L.set i ⟨q1, q2, 3, q4, k, v⟩ } ∧ Fr [44] [] base w ((wd.setCell ⟨g, i * 6 + 4, none⟩ (.int .i64 k)).setCell ⟨g, i * 6 + 5, none⟩ (.int .i64 v))) := by
              obtain ⟨h5, f5⟩ := HD.out.1.more (j := 4) (u := .int .i64 k) (y := ⟨q1, q2, 3, q4, k, q6⟩) HNN.out.1 HIL.out (by decide) rfl
              obtain ⟨h6, f6⟩ := h5.more (j := 5) (u := .int .i64 v) (y := ⟨q1, q2, 3, q4, k, v⟩) HNN.out.1 HIL.out (by decide) rfl
              exact ⟨h6, HD.out.2.trans (f5.trans f6)⟩
            go_wp2_with fail
            go_ret
            exact ⟨by rw [HK.out.2]; rfl, by rw [HK.out.1]; exact ⟨_, HF.out.1⟩, HF.out.2.mono (by simp) (by simp)⟩
      · have r4 : (q3 != 2) = true := by simp [h2]
        have r5 : (q3 == 2) = false := by simp [h2]
        have HE : replyE s ep id k = 18 := by
          unfold replyE
          rw [if_neg (by rw [HEP.out]; simp), HFI.out.1]
          show (if q3 ≠ 2 then (18 : Int) else if k < 1 ∨ 3 < k then 1 else 0) = 18
          rw [if_pos h2]
        have HK : Hid (RSx = s ∧ REx = 18) := ⟨by rw [← HRS.out.1]; exact reply_k (by rw [HE]; omega), by rw [← HRS.out.2]; exact HE⟩
        clear HE h2 HFI HGI HRSET
        go_wp2_with fail
        go_ret
        exact ⟨by rw [HK.out.2]; rfl, by rw [HK.out.1]; exact HR.out.1.2, HR.out.2.1.mono (by simp) (by simp)⟩
    · have HE : replyE s ep id k = 17 := by
        unfold replyE
        rw [if_neg (by rw [HEP.out]; simp), hfi]
      have HK : Hid (RSx = s ∧ REx = 17) := ⟨by rw [← HRS.out.1]; exact reply_k (by rw [HE]; omega), by rw [← HRS.out.2]; exact HE⟩
      have r3 : decide ((-1 : Int) < 0) = true := by decide
      clear HE hfi
      go_wp2_with fail
      go_ret
      exact ⟨by rw [HK.out.2]; rfl, by rw [HK.out.1]; exact HR.out.1.2, HR.out.2.1.mono (by simp) (by simp)⟩
  · have r1 : (ep != s.ep) = true := by simp [hep]
    have r2 : (ep == s.ep) = false := by simp [hep]
    have HE : replyE s ep id k = 22 := if_pos hep
    have HK : Hid (RSx = s ∧ REx = 22) := ⟨by rw [← HRS.out.1]; exact reply_k (by rw [HE]; omega), by rw [← HRS.out.2]; exact HE⟩
    have hat2 : ∃ z : Int, e = .returned (.int .i64 z) := by
      rcases hat with ⟨i, _, _, _, rfl⟩ | ⟨_, rfl⟩
      · exact ⟨_, rfl⟩
      · exact ⟨_, rfl⟩
    obtain ⟨z, rfl⟩ := hat2
    clear HE hep hat
    go_wp2_with fail
    go_ret
    exact ⟨by rw [HK.out.2]; rfl, by rw [HK.out.1]; exact HR.out.1.2, HR.out.2.1.mono (by simp) (by simp)⟩

end Go.Proofs.Ytlckconhhhllkaa
