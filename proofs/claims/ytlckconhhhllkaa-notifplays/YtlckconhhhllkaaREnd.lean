/-
  The document's Ended.
-/
import Derived.Test.YtlckconhhhllkaaRCut
namespace Go.Proofs.Ytlckconhhhllkaa
open Go.RowKit

set_option maxHeartbeats 16000000 in
set_option maxRecDepth 8000 in
theorem rended_kp (w : World) (base b : Nat) (v : Value) (s : Nt) (t : Int) (h : RfC w base b v s) (ho : Ok s) (hB : base ≤ w.heap.size) :
    Calls Try.prog 33 #[.pointer (some ⟨b, 0, none⟩), .int .i64 t] w fun e w' => RE w base b (endS s t) (optV (endO s.L t)) e w' ∧ Kp v b w w' := by
  obtain ⟨pv, cv, rfl⟩ := rowS_slice h.row
  obtain ⟨n, hnn⟩ : ∃ n, s.L.length = n := ⟨_, rfl⟩
  have hn8 : n ≤ 8 := by have := ho.len; have := ho.z1; omega
  rw [hnn] at h
  have HR : Hid (RfC (w.alloc (.cells #[.int .u64 0, .int .i64 0, .int .i64 0, .int .i64 0, .int .i64 0, .int .i64 0] 44)) base b (.slice pv n cv) s ∧ base ≤ w.heap.size ∧ Below w.heap.size w (w.alloc (.cells #[.int .u64 0, .int .i64 0, .int .i64 0, .int .i64 0, .int .i64 0, .int .i64 0] 44)) ∧ b ≠ w.heap.size ∧ ∀ g, (Value.slice pv n cv).ownBlock = some g → g ≠ w.heap.size) := ⟨h.over (below_new w _), hB, below_new w _, by have := h.blk.lt; omega, fun g hg => by have := own_lt h.row g hg; omega⟩
  have HBE : Hid (Blk (w.alloc (.cells #[.int .u64 0, .int .i64 0, .int .i64 0, .int .i64 0, .int .i64 0, .int .i64 0] 44)) w.heap.size 44 [.int .u64 0, .int .i64 0, .int .i64 0, .int .i64 0, .int .i64 0, .int .i64 0]) := blk_new w _ _
  have HNN : Hid (s.L.length = n ∧ Ok s) := ⟨hnn, ho⟩
  clear h hnn hB ho
  go_enter Try.func33, Try.ntmps33
  go_upto_region 1 with fail
  obtain ⟨be, hbe⟩ : ∃ k, w.heap.size = k := ⟨_, rfl⟩
  rw [hbe] at HBE ⊢
  have HE : Hid (w.heap.size = be) := hbe
  clear hbe
  generalize (w.alloc (.cells #[.int .u64 0, .int .i64 0, .int .i64 0, .int .i64 0, .int .i64 0, .int .i64 0] 44)) = w1 at *
  go_wp2_with fail
  go_loopw [6] (fun v6 wr => ∃ i : Nat, v6 = .int .i64 i ∧ i ≤ n ∧ (∀ (k : Nat) (hk : k < s.L.length), k < i → ¬ ((s.L[k]).ta = t ∧ (s.L[k]).waits = false)) ∧ Below w1.heap.size w1 wr) (fun v6 _ => n - (intOf v6).toNat)
  case atStart => exact ⟨0, rfl, Nat.zero_le _, fun k _ hk => absurd hk (Nat.not_lt_zero _), Below.refl _ _⟩
  case round =>
    obtain ⟨i, rfl, hi, hno, hbw⟩ := hrel
    have HNO : Hid (∀ (k : Nat) (hk : k < s.L.length), k < i → ¬ ((s.L[k]).ta = t ∧ (s.L[k]).waits = false)) := hno
    have HBW : Hid (Below w1.heap.size w1 wr) := hbw
    have HRR : Hid (RfC wr base b (.slice pv n cv) s) := HR.out.1.over hbw
    have c0 : wr.cell? ⟨b, 0, none⟩ = some (.slice pv n cv) := HRR.out.blk.cell 0
    clear hno hbw
    by_cases hlt : i < n
    · have hi1 : (i : Int) < (n : Int) := by omega
      have hil : i < s.L.length := by rw [HNN.out.1]; exact hlt
      have hrow := HRR.out.row
      rw [HNN.out.1] at hrow
      obtain ⟨g, rfl, _, hce⟩ := rowE_at hrow hil
      have x0 := hce 0 _ rfl
      simp only [Nat.add_zero] at x0
      have x1 := hce 1 _ rfl
      have x2 := hce 2 _ rfl
      have x3 := hce 3 _ rfl
      have x4 := hce 4 _ rfl
      have x5 := hce 5 _ rfl
      have HX : Hid (¬ ((s.L[i]).ta = t ∧ (s.L[i]).waits = false) → ∀ (k : Nat) (hk : k < s.L.length), k < i + 1 → ¬ ((s.L[k]).ta = t ∧ (s.L[k]).waits = false)) := fun e k hk hk1 => by
        by_cases e2 : k = i
        · subst e2; exact e
        · exact HNO.out k hk (by omega)
      have HQ : Hid ((s.L[i]).ta = t → (s.L[i]).waits = false → endL s.L t = s.L.take i ++ s.L.drop (i + 1) ∧ endO s.L t = some s.L[i]) := fun e1 e2 => end_first HNN.out.2 hil e1 e2
      have HWA : Hid (∀ X, Calls Try.prog 42 #[(s.L[i]).v] X fun e w' => e = .returned (.bool (s.L[i]).waits) ∧ Below X.heap.size X w') := fun X => rwaits_any _ X
      clear hrow hce
      generalize s.L[i] = q at *
      clear hil
      obtain ⟨q1, q2, q3, q4, q5, q6⟩ := q
      dsimp only at x0 x1 x2 x3 x4 x5
      replace HWA : Hid (∀ X, Calls Try.prog 42 #[.agg #[.int .u64 q1, .int .i64 q2, .int .i64 q3, .int .i64 q4, .int .i64 q5, .int .i64 q6]] X fun e w' => e = .returned (.bool (⟨q1, q2, q3, q4, q5, q6⟩ : En).waits) ∧ Below X.heap.size X w') := HWA
      obtain ⟨wq, hwq⟩ : ∃ x, (⟨q1, q2, q3, q4, q5, q6⟩ : En).waits = x := ⟨_, rfl⟩
      rw [hwq] at HX HQ HWA
      clear hwq
      have H2 : Hid (Below w1.heap.size w1 (wr.alloc (.cells #[.int .u64 q1, .int .i64 q2, .int .i64 q3, .int .i64 q4, .int .i64 q5, .int .i64 q6] 44)) ∧ Blk (wr.alloc (.cells #[.int .u64 q1, .int .i64 q2, .int .i64 q3, .int .i64 q4, .int .i64 q5, .int .i64 q6] 44)) wr.heap.size 44 [.int .u64 q1, .int .i64 q2, .int .i64 q3, .int .i64 q4, .int .i64 q5, .int .i64 q6] ∧ wr.heap.size ≠ b ∧ wr.heap.size ≠ be) := ⟨HBW.out.trans ((below_new wr _).mono HBW.out.size), blk_new _ _ _, by have := HRR.out.blk.lt; omega, by have h1 := HBE.out.lt; have h2 := HBW.out.size; omega⟩
      go_upto_region 5 with fail
      clear x0 x1 x2 x3 x4 x5 c0
      generalize (wr.alloc (.cells #[.int .u64 q1, .int .i64 q2, .int .i64 q3, .int .i64 q4, .int .i64 q5, .int .i64 q6] 44)) = w2 at *
      generalize wr.heap.size = bx at *
      have m0 := H2.out.2.1.cell 0
      have m1 := H2.out.2.1.cell 1
      have m2 := H2.out.2.1.cell 2
      have m3 := H2.out.2.1.cell 3
      have m4 := H2.out.2.1.cell 4
      have m5 := H2.out.2.1.cell 5
      clear HRR HBW
      by_cases hqt : q2 = t
      · have hyd : (q2 == t) = true := by simp [hqt]
        cases wq with
        | true =>
          have hx3 := HX.out (by rintro ⟨_, e⟩; cases e)
          have HX3 : Hid (∀ (k : Nat) (hk : k < s.L.length), k < i + 1 → ¬ ((s.L[k]).ta = t ∧ (s.L[k]).waits = false)) := hx3
          clear hx3 hqt HX HQ
          go_wp2_with fail
          refine (HWA.out w2).mono ?_
          rintro e w3 ⟨rfl, hb3⟩
          have HBN : Hid (Below w1.heap.size w1 w3) := H2.out.1.trans (hb3.mono H2.out.1.size)
          clear hb3 HWA m0 m1 m2 m3 m4 m5 H2
          go_wp2_with fail
          go_roundw
          case rel => exact ⟨i + 1, by go_num, hlt, HX3.out, HBN.out⟩
          case measure => simp [intOf]; omega
        | false =>
          have hq2 := HQ.out hqt rfl
          have HEN : Hid (endL s.L t = s.L.take i ++ s.L.drop (i + 1) ∧ endO s.L t = some ⟨q1, q2, q3, q4, q5, q6⟩) := hq2
          clear hq2 hqt HX HQ
          go_wp2_with fail
          refine (HWA.out w2).mono ?_
          rintro e w3 ⟨rfl, hb3⟩
          have H3 : Hid (Below w1.heap.size w1 w3 ∧ Blk w3 bx 44 [.int .u64 q1, .int .i64 q2, .int .i64 q3, .int .i64 q4, .int .i64 q5, .int .i64 q6] ∧ bx ≠ b ∧ bx ≠ be) := ⟨H2.out.1.trans (hb3.mono H2.out.1.size), H2.out.2.1.over hb3, H2.out.2.2⟩
          clear hb3 HWA m0 m1 m2 m3 m4 m5 H2
          go_wp2_with fail
          have HR3 : Hid (RfC w3 base b (.slice (some ⟨g, 0, none⟩) n cv) s) := HR.out.1.over H3.out.1
          have RRW : w3.ownsRow base 44 6 (.slice (some ⟨g, 0, none⟩) n cv) n (cellsE s.L) := by have := HR3.out.row; rw [HNN.out.1] at this; exact this
          have hu9 : Try.prog.underlying 39 = some (.slice (Try.prog.elem 39)) := by kernel_rfl
          have hel9 : Try.prog.elem 39 = 44 := by kernel_rfl
          obtain ⟨x1, qq1, e1⟩ := cutS_hi hu9 hel9 Try.sizeOf44 RRW i (by omega)
          obtain ⟨x2, qq2, e2⟩ := cutS_lo hu9 hel9 Try.sizeOf44 RRW (i + 1) (by omega)
          rw [show ((i + 1 : Nat) : Int) = (i : Int) + 1 from by omega] at e2
          have HSL : Hid (ScS 6 w3.drew x1 i ((cellsE s.L).take (i * 6)) ∧ ScS 6 w3.drew x2 (n - (i + 1)) ((cellsE s.L).drop ((i + 1) * 6))) := ⟨qq1.over (Below.refl _ _).drew, qq2.over (Below.refl _ _).drew⟩
          have E1 : Hid (∀ w, (Instr.sliceAt 39 (.slice (some ⟨g, 0, none⟩) n cv) none (some (.int .i64 i)) none).run Try.prog w = .ok x1 w) := e1
          have E2 : Hid (∀ w, (Instr.sliceAt 39 (.slice (some ⟨g, 0, none⟩) n cv) (some (.int .i64 ((i : Int) + 1))) none none).run Try.prog w = .ok x2 w) := e2
          have hwi : IntKind.i64.wrap ((i : Int) + 1) = (i : Int) + 1 := by rw [IntKind.wrap_i64]; omega
          have HONE : Hid (∀ u ∈ cellsE s.L, u.oneCell' = true) := one_cells _
          have HCB : Hid (∀ X, Below w3.drew.heap.size w3.drew X → X.cell? ⟨b, 0, none⟩ = some (.slice (some ⟨g, 0, none⟩) n cv)) := fun X hX => ((HR3.out.over (Below.refl _ _).drew).blk.over hX).cell 0
          have HFB : Hid (∀ X, Below w3.drew.heap.size w3.drew X → X.frozen? ⟨b, 0, none⟩ = false) := fun X hX => ((HR3.out.over (Below.refl _ _).drew).blk.over hX).f 0
          have HOV : Hid (∀ X, Below w3.drew.heap.size w3.drew X → RfC X base b (.slice (some ⟨g, 0, none⟩) n cv) s ∧ Below w1.heap.size w1 X ∧ Blk X bx 44 [.int .u64 q1, .int .i64 q2, .int .i64 q3, .int .i64 q4, .int .i64 q5, .int .i64 q6]) := fun X hX => by
            have h1 : Below w3.heap.size w3 X := (Below.refl _ _).drew.trans hX
            exact ⟨HR3.out.over h1, H3.out.1.trans (h1.mono H3.out.1.size), H3.out.2.1.over h1⟩
          have HDS : Hid (base ≤ w3.drew.heap.size ∧ be < w3.drew.heap.size) := by
            have h1 := HR.out.2.2.1.size
            have h2 := H3.out.1.size
            have h3 := HBE.out.lt
            have h4 := HR.out.2.1
            exact ⟨by show base ≤ w3.heap.size; omega, by show be < w3.heap.size; omega⟩
          clear RRW qq1 qq2 e1 e2 hu9 hel9 HR3
          refine wp_region_late (E := [19]) (S := fun X => Below w3.drew.heap.size w3.drew X) (by kernel_rfl) (Below.refl _ _) (fun hHeld => ?_)
          simp only [List.size_toArray, List.length_cons, List.length_nil, Nat.reduceAdd]
          generalize w3.drew = wd at *
          refine wpAnyL_take [17, 18, 19] (i := 0) (v := ?_) (by kernel_rfl) (by kernel_rfl) (by kernel_rfl) rfl (by kernel_rfl) (by kernel_rfl) (by kernel_rfl) (fun _ _ _ h => h) (Or.inl ⟨by rfl, ?_⟩) hHeld ?_
          rotate_left
          · (intro w hSw; (try dsimp only at hSw); skip; go_simp; try with_reducible rfl)
          try simp only [Act.put, List.setIfInBounds_toArray, List.set_cons_zero, List.set_cons_succ, List.getElem_toArray, List.getElem_cons_zero]
          refine wpAnyL_take [3, 4, 5, 7, 8, 16, 19] (i := 2) (v := ?_) (by kernel_rfl) (by kernel_rfl) (by kernel_rfl) rfl (by kernel_rfl) (by kernel_rfl) (by kernel_rfl) (fun _ _ _ h => h) (Or.inl ⟨by rfl, ?_⟩) hHeld ?_
          rotate_left
          · (intro w hSw; (try dsimp only at hSw); skip; go_simp; try with_reducible rfl)
          try simp only [Act.put, List.setIfInBounds_toArray, List.set_cons_zero, List.set_cons_succ, List.getElem_toArray, List.getElem_cons_zero, List.getElem_cons_succ]
          refine wpAnyL_take [4, 5, 7, 8, 16, 19] (i := 3) (v := ?_) (by kernel_rfl) (by kernel_rfl) (by kernel_rfl) rfl (by kernel_rfl) (by kernel_rfl) (by kernel_rfl) (fun _ _ _ h => h) (Or.inl ⟨by rfl, ?_⟩) hHeld ?_
          rotate_left
          · (intro w hSw; (try dsimp only at hSw); skip; go_simp; try with_reducible rfl)
          try simp only [Act.put, List.setIfInBounds_toArray, List.set_cons_zero, List.set_cons_succ, List.getElem_toArray, List.getElem_cons_zero, List.getElem_cons_succ]
          refine wpAnyL_take [5, 7, 8, 16, 19] (i := 4) (v := ?_) (by kernel_rfl) (by kernel_rfl) (by kernel_rfl) rfl (by kernel_rfl) (by kernel_rfl) (by kernel_rfl) (fun _ _ _ h => h) (Or.inl ⟨by rfl, ?_⟩) hHeld ?_
          rotate_left
          · (intro w hSw; (try dsimp only at hSw); skip; go_simp; try with_reducible rfl)
          try simp only [Act.put, List.setIfInBounds_toArray, List.set_cons_zero, List.set_cons_succ, List.getElem_toArray, List.getElem_cons_zero, List.getElem_cons_succ]
          refine wpAnyL_take [7, 8, 16, 19] (i := 5) (v := ?_) (by kernel_rfl) (by kernel_rfl) (by kernel_rfl) rfl (by kernel_rfl) (by kernel_rfl) (by kernel_rfl) (fun _ _ _ h => h) (Or.inl ⟨by rfl, ?_⟩) hHeld ?_
          rotate_left
          · (intro w hSw; (try dsimp only at hSw); have hc := HCB.out _ hSw; go_simp; try with_reducible rfl)
          try simp only [Act.put, List.setIfInBounds_toArray, List.set_cons_zero, List.set_cons_succ, List.getElem_toArray, List.getElem_cons_zero, List.getElem_cons_succ]
          refine wpAnyL_take [7, 8, 16, 19] (i := 6) (v := ?_) (by kernel_rfl) (by kernel_rfl) (by kernel_rfl) rfl (by kernel_rfl) (by kernel_rfl) (by kernel_rfl) (fun _ _ _ h => h) (Or.inl ⟨by rfl, ?_⟩) hHeld ?_
          rotate_left
          · (intro w hSw; (try dsimp only at hSw); skip; go_simp; try with_reducible rfl)
          try simp only [Act.put, List.setIfInBounds_toArray, List.set_cons_zero, List.set_cons_succ, List.getElem_toArray, List.getElem_cons_zero, List.getElem_cons_succ]
          refine wpAnyL_take [8, 16, 19] (i := 7) (v := ?_) (by kernel_rfl) (by kernel_rfl) (by kernel_rfl) rfl (by kernel_rfl) (by kernel_rfl) (by kernel_rfl) (fun _ _ _ h => h) (Or.inl ⟨by rfl, ?_⟩) hHeld ?_
          rotate_left
          · (intro w hSw; (try dsimp only at hSw); have e1 := E1.out; go_simp; try with_reducible rfl)
          try simp only [Act.put, List.setIfInBounds_toArray, List.set_cons_zero, List.set_cons_succ, List.getElem_toArray, List.getElem_cons_zero, List.getElem_cons_succ]
          refine wpAnyL_take [10, 11, 12, 15, 16, 19] (i := 9) (v := ?_) (by kernel_rfl) (by kernel_rfl) (by kernel_rfl) rfl (by kernel_rfl) (by kernel_rfl) (by kernel_rfl) (fun _ _ _ h => h) (Or.inl ⟨by rfl, ?_⟩) hHeld ?_
          rotate_left
          · (intro w hSw; (try dsimp only at hSw); skip; go_simp; try with_reducible rfl)
          try simp only [Act.put, List.setIfInBounds_toArray, List.set_cons_zero, List.set_cons_succ, List.getElem_toArray, List.getElem_cons_zero, List.getElem_cons_succ]
          refine wpAnyL_take [11, 12, 15, 16, 19] (i := 10) (v := ?_) (by kernel_rfl) (by kernel_rfl) (by kernel_rfl) rfl (by kernel_rfl) (by kernel_rfl) (by kernel_rfl) (fun _ _ _ h => h) (Or.inl ⟨by rfl, ?_⟩) hHeld ?_
          rotate_left
          · (intro w hSw; (try dsimp only at hSw); skip; go_simp; try with_reducible rfl)
          try simp only [Act.put, List.setIfInBounds_toArray, List.set_cons_zero, List.set_cons_succ, List.getElem_toArray, List.getElem_cons_zero, List.getElem_cons_succ]
          refine wpAnyL_take [12, 15, 16, 19] (i := 11) (v := ?_) (by kernel_rfl) (by kernel_rfl) (by kernel_rfl) rfl (by kernel_rfl) (by kernel_rfl) (by kernel_rfl) (fun _ _ _ h => h) (Or.inl ⟨by rfl, ?_⟩) hHeld ?_
          rotate_left
          · (intro w hSw; (try dsimp only at hSw); skip; go_simp; try with_reducible rfl)
          try simp only [Act.put, List.setIfInBounds_toArray, List.set_cons_zero, List.set_cons_succ, List.getElem_toArray, List.getElem_cons_zero, List.getElem_cons_succ]
          refine wpAnyL_take [15, 16, 19] (i := 12) (v := ?_) (by kernel_rfl) (by kernel_rfl) (by kernel_rfl) rfl (by kernel_rfl) (by kernel_rfl) (by kernel_rfl) (fun _ _ _ h => h) (Or.inl ⟨by rfl, ?_⟩) hHeld ?_
          rotate_left
          · (intro w hSw; (try dsimp only at hSw); have hc := HCB.out _ hSw; go_simp; try with_reducible rfl)
          try simp only [Act.put, List.setIfInBounds_toArray, List.set_cons_zero, List.set_cons_succ, List.getElem_toArray, List.getElem_cons_zero, List.getElem_cons_succ]
          refine wpAnyL_take [14, 15, 16, 19] (i := 13) (v := ?_) (by kernel_rfl) (by kernel_rfl) (by kernel_rfl) rfl (by kernel_rfl) (by kernel_rfl) (by kernel_rfl) (fun _ _ _ h => h) (Or.inl ⟨by rfl, ?_⟩) hHeld ?_
          rotate_left
          · (intro w hSw; (try dsimp only at hSw); skip; go_simp; try with_reducible rfl)
          try simp only [Act.put, List.setIfInBounds_toArray, List.set_cons_zero, List.set_cons_succ, List.getElem_toArray, List.getElem_cons_zero, List.getElem_cons_succ]
          refine wpAnyL_take [15, 16, 19] (i := 14) (v := ?_) (by kernel_rfl) (by kernel_rfl) (by kernel_rfl) rfl (by kernel_rfl) (by kernel_rfl) (by kernel_rfl) (fun _ _ _ h => h) (Or.inl ⟨by rfl, ?_⟩) hHeld ?_
          rotate_left
          · (intro w hSw; (try dsimp only at hSw); skip; go_simp; try with_reducible rfl)
          try simp only [Act.put, List.setIfInBounds_toArray, List.set_cons_zero, List.set_cons_succ, List.getElem_toArray, List.getElem_cons_zero, List.getElem_cons_succ]
          refine wpAnyL_take [16, 19] (i := 15) (v := ?_) (by kernel_rfl) (by kernel_rfl) (by kernel_rfl) rfl (by kernel_rfl) (by kernel_rfl) (by kernel_rfl) (fun _ _ _ h => h) (Or.inl ⟨by rfl, ?_⟩) hHeld ?_
          rotate_left
          · (intro w hSw; (try dsimp only at hSw); have e2 := E2.out; go_simp; try with_reducible rfl)
          try simp only [Act.put, List.setIfInBounds_toArray, List.set_cons_zero, List.set_cons_succ, List.getElem_toArray, List.getElem_cons_zero, List.getElem_cons_succ]
          refine wpAnyL_one (i := 1) (by kernel_rfl) rfl (fun K hK => ?_)
          go_simp
          have s0 : Below wd.heap.size wd (wd.alloc (.cells #[] 44)) := hHeld.trans ((below_new _ _).mono hHeld.size)
          have R0 : Hid ((wd.alloc (.cells #[] 44)).ownsRow wd.heap.size 44 6 (.slice (some ⟨wd.heap.size, 0, none⟩) 0 0) 0 []) := rowS_fresh _ _ _
          refine hK.out _ _ (fun _ => s0) ?_
          replace hHeld := s0
          clear hK K
          try simp only [Act.put, List.setIfInBounds_toArray, List.set_cons_zero, List.set_cons_succ, List.getElem_toArray, List.getElem_cons_zero, List.getElem_cons_succ]
          refine wpAnyL_one (i := 8) (by kernel_rfl) rfl (fun K hK => ?_)
          refine step_apm sty_e rfl _ _ rfl rfl rfl R0.out (ScS.over HSL.out.1 hHeld) (fun u hu => HONE.out u (List.mem_of_mem_take hu)) (by omega) (by omega) hHeld.size (fun v4 w4 ha4 => ?_)
          have s4 : Below wd.heap.size wd w4 := ha4.below R0.out hHeld
          have R4 : Hid (w4.ownsRow wd.heap.size 44 6 v4 (0 + i) ([] ++ (cellsE s.L).take (i * 6))) := ha4.own
          clear ha4
          refine hK.out _ _ (fun _ => s4) ?_
          replace hHeld := s4
          clear hK K
          try simp only [Act.put, List.setIfInBounds_toArray, List.set_cons_zero, List.set_cons_succ, List.getElem_toArray, List.getElem_cons_zero, List.getElem_cons_succ]
          refine wpAnyL_one (i := 16) (by kernel_rfl) rfl (fun K hK => ?_)
          refine step_apm sty_e rfl _ _ rfl rfl rfl R4.out (ScS.over HSL.out.2 hHeld) (fun u hu => HONE.out u (List.mem_of_mem_drop hu)) (by omega) (by omega) hHeld.size (fun v5 w5 ha5 => ?_)
          have s5 : Below wd.heap.size wd w5 := ha5.below R4.out hHeld
          have R5 : Hid (w5.ownsRow wd.heap.size 44 6 v5 (0 + i + (n - (i + 1))) ([] ++ (cellsE s.L).take (i * 6) ++ (cellsE s.L).drop ((i + 1) * 6))) := ha5.own
          obtain ⟨p5, c5, hv5⟩ := rowS_slice R5.out
          obtain ⟨n5, hn5⟩ : ∃ m, 0 + i + (n - (i + 1)) = m := ⟨_, rfl⟩
          rw [hn5] at hv5
          have HN5 : Hid (0 + i + (n - (i + 1)) = n5) := hn5
          subst hv5
          have hcb : w5.cell? ⟨b, 0, none⟩ = some (.slice (some ⟨g, 0, none⟩) n cv) := HCB.out _ s5
          have hfb : w5.frozen? ⟨b, 0, none⟩ = false := HFB.out _ s5
          clear ha5 hn5
          refine hK.out _ _ (fun _ => s5) ?_
          replace hHeld := s5
          clear hK K
          try simp only [Act.put, List.setIfInBounds_toArray, List.set_cons_zero, List.set_cons_succ, List.getElem_toArray, List.getElem_cons_zero, List.getElem_cons_succ]
          refine wpAnyL_take [18, 19] (i := 17) (v := ?_) (by kernel_rfl) (by kernel_rfl) (by kernel_rfl) rfl (by kernel_rfl) (by kernel_rfl) (by kernel_rfl) (fun _ _ _ h => h) (Or.inl ⟨by rfl, ?_⟩) hHeld ?_
          rotate_left
          · (intro w hSw; (try dsimp only at hSw); skip; go_simp; try with_reducible rfl)
          try simp only [Act.put, List.setIfInBounds_toArray, List.set_cons_zero, List.set_cons_succ, List.getElem_toArray, List.getElem_cons_zero, List.getElem_cons_succ]
          refine wpAnyL_take [19] (i := 18) (v := ?_) (by kernel_rfl) (by kernel_rfl) (by kernel_rfl) rfl (by kernel_rfl) (by kernel_rfl) (by kernel_rfl) (fun _ _ _ h => h) (Or.inl ⟨by rfl, ?_⟩) hHeld ?_
          rotate_left
          · (intro w hSw; (try dsimp only at hSw); skip; go_simp; try with_reducible rfl)
          try simp only [Act.put, List.setIfInBounds_toArray, List.set_cons_zero, List.set_cons_succ, List.getElem_toArray, List.getElem_cons_zero, List.getElem_cons_succ]
          refine wpAnyL_one (i := 19) (by kernel_rfl) rfl (fun K hK => ?_)
          try dsimp only at hHeld
          go_simp
          refine hK.out _ _ (fun h => by cases h) ?_
          clear hK K
          try simp only [Act.put, List.setIfInBounds_toArray, List.set_cons_zero, List.set_cons_succ, List.getElem_toArray, List.getElem_cons_zero, List.getElem_cons_succ]
          refine wpAnyL_done (by kernel_rfl) ?_ _
          have H6 : Hid (RfC (w5.setCell ⟨b, 0, none⟩ (.slice p5 n5 c5)) base b (.slice p5 n5 c5) (endS s t) ∧ Fr [44, 41] [] base w (w5.setCell ⟨b, 0, none⟩ (.slice p5 n5 c5)) ∧ Blk (w5.setCell ⟨b, 0, none⟩ (.slice p5 n5 c5)) bx 44 [.int .u64 q1, .int .i64 q2, .int .i64 q3, .int .i64 q4, .int .i64 q5, .int .i64 q6] ∧ Blk (w5.setCell ⟨b, 0, none⟩ (.slice p5 n5 c5)) be 44 [.int .u64 0, .int .i64 0, .int .i64 0, .int .i64 0, .int .i64 0, .int .i64 0] ∧ b ≠ be ∧ (∀ g', (Value.slice p5 n5 c5).ownBlock = some g' → g' ≠ be) ∧ base ≤ be ∧ ∀ k t cs, Blk w k t cs → k ≠ b → Blk (w5.setCell ⟨b, 0, none⟩ (.slice p5 n5 c5)) k t cs) := by
            obtain ⟨hc5, hb5, hx5⟩ := HOV.out w5 s5
            have hf : Fr [41] [] base w5 (w5.setCell ⟨b, 0, none⟩ (.slice p5 n5 c5)) := fr_set hc5.blk (by simp) hc5.bb
            have hbne : b ≠ be := by have := HR.out.2.2.2.1; rw [HE.out] at this; exact this
            have hr5 : w5.ownsRow base 44 6 (.slice p5 n5 c5) (endL s.L t).length (cellsE (endL s.L t)) := by
              have h9 := R5.out
              rw [HN5.out, List.nil_append, cellsE_take, cellsE_drop, ← show cellsE (s.L.take i ++ s.L.drop (i + 1)) = cellsE (s.L.take i) ++ cellsE (s.L.drop (i + 1)) from cellsE_app _ _, ← HEN.out.1] at h9
              have hl : (endL s.L t).length = n5 := by
                rw [HEN.out.1, List.length_append, List.length_take, List.length_drop, HNN.out.1]
                have := HN5.out
                omega
              rw [hl]
              exact owns_lower h9 HDS.out.1
            refine ⟨⟨hc5.bb, hc5.blk.set 0 _, owns_fr hr5 hf (by simp) (fun _ _ => by simp)⟩, (fr_below HR.out.2.2.1 HR.out.2.1).trans ((fr_below hb5 (Nat.le_trans HR.out.2.1 HR.out.2.2.1.size)).trans (hf.mono (by simp) (by simp))), hx5.other _ _ H3.out.2.2.1, (HBE.out.over hb5).other _ _ (fun e => hbne e.symm), hbne, fun g' hg' => ?_, by have := HR.out.2.1; rw [HE.out] at this; exact this, fun k t cs hb hk => ((hb.over HR.out.2.2.1).over hb5).other _ _ hk⟩
            have h3 := owns_block R5.out g' hg'
            have h4 := HDS.out.2
            omega
          clear R0 R4 R5 HSL E1 E2 HONE HCB HFB HOV HDS s5 hcb hfb H3
          generalize (w5.setCell ⟨b, 0, none⟩ (.slice p5 n5 c5)) = w6 at *
          have m0 := H6.out.2.2.1.cell 0
          have m1 := H6.out.2.2.1.cell 1
          have m2 := H6.out.2.2.1.cell 2
          have m3 := H6.out.2.2.1.cell 3
          have m4 := H6.out.2.2.1.cell 4
          have m5 := H6.out.2.2.1.cell 5
          have k0 := H6.out.2.2.2.1.cell 0
          have k1 := H6.out.2.2.2.1.cell 1
          have k2 := H6.out.2.2.2.1.cell 2
          have k3 := H6.out.2.2.2.1.cell 3
          have k4 := H6.out.2.2.2.1.cell 4
          have k5 := H6.out.2.2.2.1.cell 5
          have f0 := H6.out.2.2.2.1.f 0
          have f1 := H6.out.2.2.2.1.f 1
          have f2 := H6.out.2.2.2.1.f 2
          have f3 := H6.out.2.2.2.1.f 3
          have f4 := H6.out.2.2.2.1.f 4
          have f5 := H6.out.2.2.2.1.f 5
          go_wp2_with fail
          have HP : Blk (put6 w6 be ⟨q1, q2, q3, q4, q5, q6⟩) be 44 (⟨q1, q2, q3, q4, q5, q6⟩ : En).cells := put6_blk (y := En.zero) H6.out.2.2.2.1
          refine bodyPost_ret (v := optV (some ⟨q1, q2, q3, q4, q5, q6⟩)) (res_en Try.results33 _ _ be ⟨q1, q2, q3, q4, q5, q6⟩ true rfl HP rfl) rfl ?_
          refine ⟨⟨by rw [HEN.out.2], ⟨.slice p5 n5 c5, ?_⟩, ?_⟩, fun k t cs hb hv hk => put6_keep (be := be) (x := ⟨q1, q2, q3, q4, q5, q6⟩) (H6.out.2.2.2.2.2.2.2 k t cs hb hk) (by have := hb.lt; have := HE.out; omega)⟩
          · exact put6_rfc (x := ⟨q1, q2, q3, q4, q5, q6⟩) (be := be) H6.out.1 H6.out.2.2.2.2.1 H6.out.2.2.2.2.2.1
          · exact H6.out.2.1.trans ((put6_fr (x := ⟨q1, q2, q3, q4, q5, q6⟩) (y := En.zero) H6.out.2.2.2.1 H6.out.2.2.2.2.2.2.1).mono (by simp) (by simp))
      · have hyd : (q2 == t) = false := by simp [hqt]
        have hx3 := HX.out (by rintro ⟨e, _⟩; exact hqt e)
        have HX3 : Hid (∀ (k : Nat) (hk : k < s.L.length), k < i + 1 → ¬ ((s.L[k]).ta = t ∧ (s.L[k]).waits = false)) := hx3
        have HBN : Hid (Below w1.heap.size w1 w2) := H2.out.1
        clear hx3 hqt HX HQ HWA H2
        go_wp2_with fail
        go_roundw
        case rel => exact ⟨i + 1, by go_num, hlt, HX3.out, HBN.out⟩
        case measure => simp [intOf]; omega
    · have hi1 : ¬ (i : Int) < (n : Int) := by omega
      have hK := end_none (L := s.L) (t := t) fun k hk => HNO.out k hk (by have := HNN.out.1; omega)
      have HK : Hid (endS s t = s ∧ endO s.L t = none) := by
        refine ⟨?_, hK.2⟩
        unfold endS
        rw [hK.1]
      have HBB : Hid (Blk wr be 44 [.int .u64 0, .int .i64 0, .int .i64 0, .int .i64 0, .int .i64 0, .int .i64 0]) := HBE.out.over HBW.out
      have k0 := HBB.out.cell 0
      have k1 := HBB.out.cell 1
      have k2 := HBB.out.cell 2
      have k3 := HBB.out.cell 3
      have k4 := HBB.out.cell 4
      have k5 := HBB.out.cell 5
      have f0 := HBB.out.f 0
      have f1 := HBB.out.f 1
      have f2 := HBB.out.f 2
      have f3 := HBB.out.f 3
      have f4 := HBB.out.f 4
      have f5 := HBB.out.f 5
      clear hK
      go_wp2_with fail
      have HP : Blk (put6 wr be En.zero) be 44 En.zero.cells := put6_blk (y := En.zero) HBB.out
      refine bodyPost_ret (v := optV none) (res_en Try.results33 _ _ be En.zero false rfl HP rfl) rfl ?_
      refine ⟨⟨by rw [HK.out.2], ⟨.slice pv n cv, ?_⟩, ?_⟩, fun k t cs hb hv hk => put6_keep (be := be) (x := En.zero) ((hb.over HR.out.2.2.1).over HBW.out) (by have := hb.lt; have := HE.out; omega)⟩
      · rw [HK.out.1]
        exact put6_rfc (x := En.zero) (be := be) HRR.out (by have := HR.out.2.2.2.1; rw [HE.out] at this; exact this) (fun g' hg' => by have := HR.out.2.2.2.2 g' hg'; rw [HE.out] at this; exact this)
      · exact (fr_below HR.out.2.2.1 HR.out.2.1).trans ((fr_below HBW.out (Nat.le_trans HR.out.2.1 HR.out.2.2.1.size)).trans ((put6_fr (x := En.zero) (y := En.zero) HBB.out (by rw [← HE.out]; exact HR.out.2.1)).mono (by simp) (by simp)))

theorem rended_any (w : World) (base b : Nat) (s : Nt) (t : Int) (h : RfT w base b s) (ho : Ok s) (hB : base ≤ w.heap.size) :
    Calls Try.prog 33 #[.pointer (some ⟨b, 0, none⟩), .int .i64 t] w fun e w' => RE w base b (endS s t) (optV (endO s.L t)) e w' := by
  obtain ⟨v, h⟩ := h
  exact (rended_kp w base b v s t h ho hB).mono fun _ _ h => h.1

end Go.Proofs.Ytlckconhhhllkaa
