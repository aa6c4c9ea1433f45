/-
  The document's Add.
-/
import Derived.Test.YtlckconhhhllkaaRTick
namespace Go.Proofs.Ytlckconhhhllkaa
open Go.RowKit

/-- at a step of a drawn region. -/
theorem step_aps {ts e : TypeId} {z : Value} {sz bytes : Nat} (E : Sty ts e z sz bytes) {W : World} {ops : Array Oper} {o : Oper} {a : Act} {K : Act → World → Prop} {Q : Exit → Act → World → Prop} {F : Prop} (hgd : o.guard = none) (s x : Operand)
    (ho : o.op = .call { callee := .builtin .append, args := #[s, x], argTypes := #[ts, ts] }) {base n g : Nat} {v : Value} {xs ys : List Value} (hv : a.eval s = v) (hx : a.eval x = .slice (some ⟨g, 0, none⟩) 1 1)
    (h : W.ownsRow base e sz v n xs) (hc : W.heap[g]? = some (.cells ys.toArray e (0, 0))) (hl : ys.length = sz) (h1 : ∀ u ∈ ys, u.oneCell' = true) (hn : n + 1 ≤ maxLen) (hb : (n + 1) * bytes ≤ 140737488355328) (hbase : base ≤ W.heap.size)
    (hk : ∀ v' w', ApS e sz base W w' v v' (n + 1) (xs ++ ys) → K (a.put o.dst v') w') :
    if Region.wanted o (yielded ops a.tmps) = true then Oper.wp Try.prog o a W K Q else F := by
  rw [if_pos (by simp [Region.wanted, hgd])]
  obtain ⟨v', w', hr, h2⟩ := run_aps E h hc hl h1 hn hb hbase o.type
  unfold Oper.wp execOp
  simp only [ho, resolve, invoke, builtin, Sem.run_bind, Sem.run_pure, Result.andThen_ok, List.map_toArray, List.map_cons, List.map_nil, hv, hx, hr]
  exact hk _ _ h2

theorem add_err {s : Nt} {t : Int} {e : Int} (h : addE s t = e) (he : e ≠ 0) : addI s t = 0 ∧ addE s t = e ∧ addS s t = s := by
  refine ⟨?_, h, ?_⟩
  · unfold addI
    rw [if_neg (by rw [h]; exact he)]
  · unfold addS
    rw [if_neg (by rw [h]; exact he)]
theorem hasTask_no {L : List En} {t : Int} (h : ∀ (k : Nat) (hk : k < L.length), (L[k]).ta ≠ t) : ¬ hasTask L t = true := fun hm => by
  obtain ⟨x, hx, e⟩ := hasTask_iff.1 hm
  obtain ⟨k, hk, rfl⟩ := List.getElem_of_mem hx
  exact h k hk e

set_option maxHeartbeats 16000000 in
set_option maxRecDepth 8000 in
theorem radd_any (w : World) (base b : Nat) (s : Nt) (t : Int) (h : RfT w base b s) (ho : Ok s) (hB : base ≤ w.heap.size) :
    Calls Try.prog 23 #[.pointer (some ⟨b, 0, none⟩), .int .i64 t] w fun e w' => RE w base b (addS s t) (.tuple #[.int .u64 (addI s t), .int .i64 (addE s t)]) e w' := by
  have HR0 : Hid (RfT w base b s) := h
  obtain ⟨vv, h⟩ := h
  obtain ⟨pv, cv, rfl⟩ := rowS_slice h.row
  obtain ⟨n, hnn⟩ : ∃ n, s.L.length = n := ⟨_, rfl⟩
  have hn8 : n ≤ 8 := by have := ho.len; have := ho.z1; omega
  rw [hnn] at h
  have HR : Hid (RfC w base b (.slice pv n cv) s ∧ RfT w base b s ∧ base ≤ w.heap.size) := ⟨h, HR0.out, hB⟩
  have HNN : Hid (s.L.length = n ∧ Ok s) := ⟨hnn, ho⟩
  have HFR : Hid (Fr [44, 41] [] base w w) := Fr.refl _ _ _ _
  have c0 : w.cell? ⟨b, 0, none⟩ = some (.slice pv n cv) := h.blk.cell 0
  obtain ⟨AIx, hAI⟩ : ∃ q, addI s t = q := ⟨_, rfl⟩
  obtain ⟨AEx, hAE⟩ : ∃ q, addE s t = q := ⟨_, rfl⟩
  obtain ⟨ASx, hAS⟩ : ∃ q, addS s t = q := ⟨_, rfl⟩
  have HAD : Hid (addI s t = AIx ∧ addE s t = AEx ∧ addS s t = ASx) := ⟨hAI, hAE, hAS⟩
  have HER : Hid (∀ e : Int, addE s t = e → e ≠ 0 → AIx = 0 ∧ AEx = e ∧ ASx = s) := fun e h1 h2 => by
    obtain ⟨q1, q2, q3⟩ := add_err h1 h2
    exact ⟨hAI.symm.trans q1, hAE.symm.trans q2, hAS.symm.trans q3⟩
  rw [hAI, hAE, hAS]
  clear h hnn hB ho hAI hAE hAS HR0
  by_cases ht1 : t < 1
  · have r1 : decide (t < 1) = true := decide_eq_true ht1
    have HK : Hid (AIx = 0 ∧ AEx = 1 ∧ ASx = s) := HER.out 1 (by unfold addE; rw [if_pos (by omega)]) (by omega)
    clear HER HAD
    go_enter Try.func23, Try.ntmps23
    go_wp2_with fail
    go_ret2
    exact ⟨by rw [HK.out.1, HK.out.2.1]; rfl, by rw [HK.out.2.2]; exact HR.out.2.1, HFR.out⟩
  · have r1 : decide (t < 1) = false := decide_eq_false ht1
    by_cases ht4 : 4 < t
    · have r2 : decide (4 < t) = true := decide_eq_true ht4
      have HK : Hid (AIx = 0 ∧ AEx = 1 ∧ ASx = s) := HER.out 1 (by unfold addE; rw [if_pos (by omega)]) (by omega)
      clear HER HAD
      go_enter Try.func23, Try.ntmps23
      go_wp2_with fail
      go_ret2
      exact ⟨by rw [HK.out.1, HK.out.2.1]; rfl, by rw [HK.out.2.2]; exact HR.out.2.1, HFR.out⟩
    · have r2 : decide (4 < t) = false := decide_eq_false ht4
      have HT4 : Hid (¬ (t < 1 ∨ 4 < t)) := by show ¬ _; omega
      go_enter Try.func23, Try.ntmps23
      go_wp2_with fail
      go_loopw [6] (fun v6 wr => ∃ i : Nat, v6 = .int .i64 i ∧ i ≤ n ∧ (∀ (k : Nat) (hk : k < s.L.length), k < i → (s.L[k]).ta ≠ t) ∧ wr = w) (fun v6 _ => n - (intOf v6).toNat)
      case atStart => exact ⟨0, rfl, Nat.zero_le _, fun k _ hk => absurd hk (Nat.not_lt_zero _), rfl⟩
      case round =>
        obtain ⟨i, rfl, hi, hno, hw⟩ := hrel
        subst hw
        have HNO : Hid (∀ (k : Nat) (hk : k < s.L.length), k < i → (s.L[k]).ta ≠ t) := hno
        clear hno
        by_cases hlt : i < n
        · have hi1 : (i : Int) < (n : Int) := by omega
          have hil : i < s.L.length := by rw [HNN.out.1]; exact hlt
          have hrow := HR.out.1.row
          rw [HNN.out.1] at hrow
          obtain ⟨g, rfl, _, hce⟩ := rowE_at hrow hil
          have x1 := hce 1 _ rfl
          have HX : Hid ((s.L[i]).ta ≠ t → ∀ (k : Nat) (hk : k < s.L.length), k < i + 1 → (s.L[k]).ta ≠ t) := fun e k hk hk1 => by
            by_cases e2 : k = i
            · subst e2; exact e
            · exact HNO.out k hk (by omega)
          have HQ : Hid ((s.L[i]).ta = t → hasTask s.L t = true) := fun e => hasTask_iff.2 ⟨_, List.getElem_mem hil, e⟩
          clear hce hrow
          generalize (s.L[i]).ta = y at *
          by_cases hyt : y = t
          · have hyd : (y == t) = true := by simp [hyt]
            have hq := HQ.out hyt
            have HK : Hid (AIx = 0 ∧ AEx = 21 ∧ ASx = s) := HER.out 21 (by unfold addE; rw [if_neg HT4.out, if_pos hq]) (by omega)
            clear hyt HQ HX hil hq HER HAD
            go_wp2_with fail
            go_ret2
            exact ⟨by rw [HK.out.1, HK.out.2.1]; rfl, by rw [HK.out.2.2]; exact HR.out.2.1, HFR.out⟩
          · have hyd : (y == t) = false := by simp [hyt]
            have HX2 := HX.out hyt
            have HX3 : Hid (∀ (k : Nat) (hk : k < s.L.length), k < i + 1 → (s.L[k]).ta ≠ t) := HX2
            clear hyt HQ HX hil HX2
            go_wp2_with fail
            go_roundw
            case rel => exact ⟨i + 1, by go_num, hlt, HX3.out, by trivial⟩
            case measure => simp [intOf]; omega
        · have hi1 : ¬ (i : Int) < (n : Int) := by omega
          have HNT : Hid (¬ hasTask s.L t = true) := hasTask_no fun k hk => HNO.out k hk (by have := HNN.out.1; omega)
          have HBX : Hid (Blk wr b 41 [.slice pv n cv, .int .i64 s.size, .int .i64 s.wait, .int .u64 s.next, .int .u64 s.ep]) := HR.out.1.blk
          have HFN : Hid (addE s t = if s.size ≤ (n : Int) ∨ s.next = 18446744073709551615 then 16 else 0) := by
            show _ = _
            unfold addE
            rw [if_neg HT4.out, if_neg HNT.out, HNN.out.1]
          have HNX : Hid (0 ≤ s.next ∧ s.next ≤ 18446744073709551615) := ⟨HNN.out.2.n0, HNN.out.2.n1⟩
          have HAS : Hid (addE s t = 0 → AIx = s.next ∧ AEx = 0 ∧ ASx = { s with next := s.next + 1, L := s.L ++ [⟨s.next, t, 1, s.wait, 0, 0⟩] }) := fun he => by
            refine ⟨?_, HAD.out.2.1.symm.trans he, ?_⟩
            · rw [← HAD.out.1]
              unfold addI
              rw [if_pos he]
            · rw [← HAD.out.2.2]
              unfold addS
              rw [if_pos he]
          have HROW : Hid (RfC wr base b (.slice pv n cv) s) := HR.out.1
          have k0 := HBX.out.cell 0
          have k1 := HBX.out.cell 1
          have k3 := HBX.out.cell 3
          obtain ⟨sz, hsz⟩ : ∃ q, s.size = q := ⟨_, rfl⟩
          obtain ⟨wt, hwt⟩ : ∃ q, s.wait = q := ⟨_, rfl⟩
          obtain ⟨nx, hnx⟩ : ∃ q, s.next = q := ⟨_, rfl⟩
          obtain ⟨e0, he0⟩ : ∃ q, s.ep = q := ⟨_, rfl⟩
          obtain ⟨Lx, hLx⟩ : ∃ q, s.L = q := ⟨_, rfl⟩
          have HSS : Hid (s = ⟨sz, wt, nx, e0, Lx⟩) := by
            obtain ⟨a1, a2, a3, a4, a5⟩ := s
            simp only at hsz hwt hnx he0 hLx
            subst hsz hwt hnx he0 hLx
            rfl
          rw [hsz] at k1 HFN HBX HAS
          rw [hnx] at k3 HFN HNX HAS HBX
          rw [hwt] at HAS HBX
          rw [he0] at HBX HAS
          rw [hLx] at HAS
          clear hsz hwt hnx he0 HNO HAD
          by_cases hfl : sz ≤ (n : Int)
          · have r3 : decide (sz ≤ (n : Int)) = true := decide_eq_true hfl
            have r3' : sz ≤ (n : Int) := hfl
            have HK : Hid (AIx = 0 ∧ AEx = 16 ∧ ASx = s) := HER.out 16 (by rw [HFN.out, if_pos (.inl hfl)]) (by omega)
            have HFD : Hid (∀ m, RfT (wr.drewN m) base b s ∧ Fr [44, 41] [] base wr (wr.drewN m)) := fun m => ⟨HR.out.2.1.over (below_drewN wr m), fr_below (below_drewN wr m) HR.out.2.2⟩
            clear hfl HER HAS hLx
            go_wp2_with fail
            go_quiet (fail)
            go_wp2_with fail
            go_ret2
            exact ⟨by rw [HK.out.1, HK.out.2.1]; rfl, by rw [HK.out.2.2]; exact (HFD.out _).1, (HFD.out _).2⟩
          · have r3 : decide (sz ≤ (n : Int)) = false := decide_eq_false hfl
            by_cases hmx : nx = 18446744073709551615
            · have r4 : (nx == 18446744073709551615) = true := by simp [hmx]
              have HK : Hid (AIx = 0 ∧ AEx = 16 ∧ ASx = s) := HER.out 16 (by rw [HFN.out, if_pos (.inr hmx)]) (by omega)
              have HFD : Hid (∀ m, RfT (wr.drewN m) base b s ∧ Fr [44, 41] [] base wr (wr.drewN m)) := fun m => ⟨HR.out.2.1.over (below_drewN wr m), fr_below (below_drewN wr m) HR.out.2.2⟩
              clear hmx HER HAS hLx
              go_wp2_with fail
              go_quiet (fail)
              go_wp2_with fail
              go_ret2
              exact ⟨by rw [HK.out.1, HK.out.2.1]; rfl, by rw [HK.out.2.2]; exact (HFD.out _).1, (HFD.out _).2⟩
            · have r4 : (nx == 18446744073709551615) = false := by simp [hmx]
              have HK : Hid (AIx = nx ∧ AEx = 0 ∧ ASx = ⟨sz, wt, nx + 1, e0, Lx ++ [⟨nx, t, 1, wt, 0, 0⟩]⟩) := HAS.out (by rw [HFN.out, if_neg (by omega)])
              have w1' : IntKind.u64.wrap (nx + 1) = nx + 1 := wrap_u' (by have := HNX.out; omega) (by have := HNX.out; omega)
              have w2' : IntKind.u64.wrap (nx + 1 - 1) = nx := by rw [show nx + 1 - 1 = nx by omega]; exact wrap_u' HNX.out.1 (by have := HNX.out; omega)
              have HQD : Hid (∀ m, RfC (wr.drewN m) base b (.slice pv n cv) s ∧ Fr [44, 41] [] base wr (wr.drewN m)) := fun m => ⟨HROW.out.over (below_drewN wr m), fr_below (below_drewN wr m) HR.out.2.2⟩
              have HBY : Hid (∀ m, Blk (wr.drewN m) b 41 [.slice pv n cv, .int .i64 sz, .int .i64 wt, .int .u64 nx, .int .u64 e0]) := fun m => HBX.out.over (below_drewN wr m)
              clear hmx hfl HER HAS
              go_wp2_with fail
              go_quiet (fail)
              have HQ1 : Hid (RfC (wr.drewN nq) base b (.slice pv n cv) s ∧ Fr [44, 41] [] base wr (wr.drewN nq) ∧ base ≤ (wr.drewN nq).heap.size) := ⟨(HQD.out nq).1, (HQD.out nq).2, Nat.le_trans HR.out.2.2 (HQD.out nq).2.bel.size⟩
              have HB1 : Hid (Blk (wr.drewN nq) b 41 [.slice pv n cv, .int .i64 sz, .int .i64 wt, .int .u64 nx, .int .u64 e0]) := HBY.out nq
              clear HQD HBY k0 k1 k3 c0
              generalize wr.drewN nq = W1 at *
              go_wp2_with fail
              have HD0 : RfC W1.drew base b (.slice pv n cv) s := HQ1.out.1.over (Below.refl _ _).drew
              have HD : Hid (W1.drew.ownsRow base 44 6 (.slice pv n cv) n (cellsE Lx) ∧ base ≤ W1.drew.heap.size ∧ Fr [44, 41] [] base wr W1.drew) := by
                have hr := HD0.row
                rw [HNN.out.1, hLx] at hr
                exact ⟨hr, HQ1.out.2.2, HQ1.out.2.1.trans (fr_below (Below.refl _ _).drew HQ1.out.2.2)⟩
              have HBD : Blk W1.drew b 41 [.slice pv n cv, .int .i64 sz, .int .i64 wt, .int .u64 nx, .int .u64 e0] := HB1.out.over (Below.refl _ _).drew
              have HBB : Hid (base ≤ b) := HD0.bb
              have HLL : Hid (Lx.length = n) := by rw [← hLx]; exact HNN.out.1
              clear HD0 hLx
              refine wp_region_late (E := [19]) (S := fun X => Blk X b 41 [.slice pv n cv, .int .i64 sz, .int .i64 wt, .int .u64 nx, .int .u64 e0]) (by kernel_rfl) (HBD) (fun hHeld => ?_)
              simp only [List.size_toArray, List.length_cons, List.length_nil, Nat.reduceAdd]
              generalize W1.drew = wd at *
              refine wpAnyL_take [17, 18, 19] (i := 0) (v := ?_) (by kernel_rfl) (by kernel_rfl) (by kernel_rfl) rfl (by kernel_rfl) (by kernel_rfl) (by kernel_rfl) (fun _ _ _ h => h) (Or.inl ⟨by rfl, ?_⟩) hHeld ?_
              rotate_left
              · (intro w hSw; (try dsimp only at hSw); skip; go_simp; try with_reducible rfl)
              try simp only [Act.put, List.setIfInBounds_toArray, List.set_cons_zero, List.set_cons_succ, List.getElem_toArray, List.getElem_cons_zero]
              refine wpAnyL_take [2, 3, 4, 16, 19] (i := 1) (v := ?_) (by kernel_rfl) (by kernel_rfl) (by kernel_rfl) rfl (by kernel_rfl) (by kernel_rfl) (by kernel_rfl) (fun _ _ _ h => h) (Or.inl ⟨by rfl, ?_⟩) hHeld ?_
              rotate_left
              · (intro w hSw; (try dsimp only at hSw); skip; go_simp; try with_reducible rfl)
              try simp only [Act.put, List.setIfInBounds_toArray, List.set_cons_zero, List.set_cons_succ, List.getElem_toArray, List.getElem_cons_zero, List.getElem_cons_succ]
              refine wpAnyL_take [3, 4, 16, 19] (i := 2) (v := ?_) (by kernel_rfl) (by kernel_rfl) (by kernel_rfl) rfl (by kernel_rfl) (by kernel_rfl) (by kernel_rfl) (fun _ _ _ h => h) (Or.inl ⟨by rfl, ?_⟩) hHeld ?_
              rotate_left
              · (intro w hSw; (try dsimp only at hSw); skip; go_simp; try with_reducible rfl)
              try simp only [Act.put, List.setIfInBounds_toArray, List.set_cons_zero, List.set_cons_succ, List.getElem_toArray, List.getElem_cons_zero, List.getElem_cons_succ]
              refine wpAnyL_take [4, 16, 19] (i := 3) (v := ?_) (by kernel_rfl) (by kernel_rfl) (by kernel_rfl) rfl (by kernel_rfl) (by kernel_rfl) (by kernel_rfl) (fun _ _ _ h => h) (Or.inl ⟨by rfl, ?_⟩) hHeld ?_
              rotate_left
              · (intro w hSw; (try dsimp only at hSw); skip; go_simp; try with_reducible rfl)
              try simp only [Act.put, List.setIfInBounds_toArray, List.set_cons_zero, List.set_cons_succ, List.getElem_toArray, List.getElem_cons_zero, List.getElem_cons_succ]
              refine wpAnyL_take [16, 19] (i := 4) (v := ?_) (by kernel_rfl) (by kernel_rfl) (by kernel_rfl) rfl (by kernel_rfl) (by kernel_rfl) (by kernel_rfl) (fun _ _ _ h => h) (Or.inl ⟨by rfl, ?_⟩) hHeld ?_
              rotate_left
              · (intro w hSw; (try dsimp only at hSw); have hc := hSw.cell 0; go_simp; try with_reducible rfl)
              try simp only [Act.put, List.setIfInBounds_toArray, List.set_cons_zero, List.set_cons_succ, List.getElem_toArray, List.getElem_cons_zero, List.getElem_cons_succ]
              refine wpAnyL_take [6, 7, 8, 14, 15, 16, 19] (i := 5) (v := ?_) (by kernel_rfl) (by kernel_rfl) (by kernel_rfl) rfl (by kernel_rfl) (by kernel_rfl) (by kernel_rfl) (fun _ _ _ h => h) (Or.inl ⟨by rfl, ?_⟩) hHeld ?_
              rotate_left
              · (intro w hSw; (try dsimp only at hSw); skip; go_simp; try with_reducible rfl)
              try simp only [Act.put, List.setIfInBounds_toArray, List.set_cons_zero, List.set_cons_succ, List.getElem_toArray, List.getElem_cons_zero, List.getElem_cons_succ]
              refine wpAnyL_take [7, 8, 14, 15, 16, 19] (i := 6) (v := ?_) (by kernel_rfl) (by kernel_rfl) (by kernel_rfl) rfl (by kernel_rfl) (by kernel_rfl) (by kernel_rfl) (fun _ _ _ h => h) (Or.inl ⟨by rfl, ?_⟩) hHeld ?_
              rotate_left
              · (intro w hSw; (try dsimp only at hSw); skip; go_simp; try with_reducible rfl)
              try simp only [Act.put, List.setIfInBounds_toArray, List.set_cons_zero, List.set_cons_succ, List.getElem_toArray, List.getElem_cons_zero, List.getElem_cons_succ]
              refine wpAnyL_take [8, 14, 15, 16, 19] (i := 7) (v := ?_) (by kernel_rfl) (by kernel_rfl) (by kernel_rfl) rfl (by kernel_rfl) (by kernel_rfl) (by kernel_rfl) (fun _ _ _ h => h) (Or.inl ⟨by rfl, ?_⟩) hHeld ?_
              rotate_left
              · (intro w hSw; (try dsimp only at hSw); skip; go_simp; try with_reducible rfl)
              try simp only [Act.put, List.setIfInBounds_toArray, List.set_cons_zero, List.set_cons_succ, List.getElem_toArray, List.getElem_cons_zero, List.getElem_cons_succ]
              refine wpAnyL_take [14, 15, 16, 19] (i := 8) (v := ?_) (by kernel_rfl) (by kernel_rfl) (by kernel_rfl) rfl (by kernel_rfl) (by kernel_rfl) (by kernel_rfl) (fun _ _ _ h => h) (Or.inl ⟨by rfl, ?_⟩) hHeld ?_
              rotate_left
              · (intro w hSw; (try dsimp only at hSw); have hc := hSw.cell 3; go_simp; try with_reducible rfl)
              try simp only [Act.put, List.setIfInBounds_toArray, List.set_cons_zero, List.set_cons_succ, List.getElem_toArray, List.getElem_cons_zero, List.getElem_cons_succ]
              refine wpAnyL_take [14, 15, 16, 19] (i := 9) (v := ?_) (by kernel_rfl) (by kernel_rfl) (by kernel_rfl) rfl (by kernel_rfl) (by kernel_rfl) (by kernel_rfl) (fun _ _ _ h => h) (Or.inl ⟨by rfl, ?_⟩) hHeld ?_
              rotate_left
              · (intro w hSw; (try dsimp only at hSw); skip; go_simp; try with_reducible rfl)
              try simp only [Act.put, List.setIfInBounds_toArray, List.set_cons_zero, List.set_cons_succ, List.getElem_toArray, List.getElem_cons_zero, List.getElem_cons_succ]
              refine wpAnyL_take [11, 12, 13, 14, 15, 16, 19] (i := 10) (v := ?_) (by kernel_rfl) (by kernel_rfl) (by kernel_rfl) rfl (by kernel_rfl) (by kernel_rfl) (by kernel_rfl) (fun _ _ _ h => h) (Or.inl ⟨by rfl, ?_⟩) hHeld ?_
              rotate_left
              · (intro w hSw; (try dsimp only at hSw); skip; go_simp; try with_reducible rfl)
              try simp only [Act.put, List.setIfInBounds_toArray, List.set_cons_zero, List.set_cons_succ, List.getElem_toArray, List.getElem_cons_zero, List.getElem_cons_succ]
              refine wpAnyL_take [12, 13, 14, 15, 16, 19] (i := 11) (v := ?_) (by kernel_rfl) (by kernel_rfl) (by kernel_rfl) rfl (by kernel_rfl) (by kernel_rfl) (by kernel_rfl) (fun _ _ _ h => h) (Or.inl ⟨by rfl, ?_⟩) hHeld ?_
              rotate_left
              · (intro w hSw; (try dsimp only at hSw); skip; go_simp; try with_reducible rfl)
              try simp only [Act.put, List.setIfInBounds_toArray, List.set_cons_zero, List.set_cons_succ, List.getElem_toArray, List.getElem_cons_zero, List.getElem_cons_succ]
              refine wpAnyL_take [13, 14, 15, 16, 19] (i := 12) (v := ?_) (by kernel_rfl) (by kernel_rfl) (by kernel_rfl) rfl (by kernel_rfl) (by kernel_rfl) (by kernel_rfl) (fun _ _ _ h => h) (Or.inl ⟨by rfl, ?_⟩) hHeld ?_
              rotate_left
              · (intro w hSw; (try dsimp only at hSw); skip; go_simp; try with_reducible rfl)
              try simp only [Act.put, List.setIfInBounds_toArray, List.set_cons_zero, List.set_cons_succ, List.getElem_toArray, List.getElem_cons_zero, List.getElem_cons_succ]
              refine wpAnyL_take [14, 15, 16, 19] (i := 13) (v := ?_) (by kernel_rfl) (by kernel_rfl) (by kernel_rfl) rfl (by kernel_rfl) (by kernel_rfl) (by kernel_rfl) (fun _ _ _ h => h) (Or.inl ⟨by rfl, ?_⟩) hHeld ?_
              rotate_left
              · (intro w hSw; (try dsimp only at hSw); have hc := hSw.cell 2; go_simp; try with_reducible rfl)
              try simp only [Act.put, List.setIfInBounds_toArray, List.set_cons_zero, List.set_cons_succ, List.getElem_toArray, List.getElem_cons_zero, List.getElem_cons_succ]
              refine wpAnyL_take [15, 16, 19] (i := 14) (v := ?_) (by kernel_rfl) (by kernel_rfl) (by kernel_rfl) rfl (by kernel_rfl) (by kernel_rfl) (by kernel_rfl) (fun _ _ _ h => h) (Or.inl ⟨by rfl, ?_⟩) hHeld ?_
              rotate_left
              · (intro w hSw; (try dsimp only at hSw); skip; go_simp; try with_reducible rfl)
              try simp only [Act.put, List.setIfInBounds_toArray, List.set_cons_zero, List.set_cons_succ, List.getElem_toArray, List.getElem_cons_zero, List.getElem_cons_succ]
              refine wpAnyL_one (i := 15) (by kernel_rfl) rfl (fun K hK => ?_)
              go_simp
              have s0 : Blk (wd.alloc (.cells #[.int .u64 nx, .int .i64 t, .int .i64 1, .int .i64 wt, .int .i64 0, .int .i64 0] 44)) b 41 [.slice pv n cv, .int .i64 sz, .int .i64 wt, .int .u64 nx, .int .u64 e0] := hHeld.alloc _
              refine hK.out _ _ (fun _ => s0) ?_
              replace hHeld := s0
              clear hK K
              try simp only [Act.put, List.setIfInBounds_toArray, List.set_cons_zero, List.set_cons_succ, List.getElem_toArray, List.getElem_cons_zero, List.getElem_cons_succ]
              refine wpAnyL_one (i := 16) (by kernel_rfl) rfl (fun K hK => ?_)
              refine step_aps (n := n) (g := wd.heap.size) sty_e rfl _ _ rfl rfl rfl (owns_below HD.out.1 (below_new _ _) (Nat.le_refl _)) (by rw [heap_alloc_new]; rfl) rfl (one_en ⟨nx, t, 1, wt, 0, 0⟩) (by unfold maxLen; omega) (by omega) (Nat.le_trans HD.out.2.1 (below_new wd (.cells #[.int .u64 nx, .int .i64 t, .int .i64 1, .int .i64 wt, .int .i64 0, .int .i64 0] 44)).size) (fun v5 w5 ha5 => ?_)
              have s5 : Blk w5 b 41 [.slice pv n cv, .int .i64 sz, .int .i64 wt, .int .u64 nx, .int .u64 e0] := hHeld.fr (aps_fr (owns_below HD.out.1 (below_new _ _) (Nat.le_refl _)) ha5 (Nat.le_trans HD.out.2.1 (below_new wd (.cells #[.int .u64 nx, .int .i64 t, .int .i64 1, .int .i64 wt, .int .i64 0, .int .i64 0] 44)).size)) (by simp) (by simp)
              have HA5 : Hid (ApS 44 6 base (wd.alloc (.cells #[.int .u64 nx, .int .i64 t, .int .i64 1, .int .i64 wt, .int .i64 0, .int .i64 0] 44)) w5 (.slice pv n cv) v5 (n + 1) (cellsE Lx ++ (⟨nx, t, 1, wt, 0, 0⟩ : En).cells)) := ha5
              obtain ⟨p5, c5, hv5⟩ := rowS_slice ha5.own
              obtain ⟨n5, hn5⟩ : ∃ m, n + 1 = m := ⟨_, rfl⟩
              rw [hn5] at hv5
              subst hv5
              have hcb : w5.cell? ⟨b, 0, none⟩ = some (.slice pv n cv) := s5.cell 0
              have hfb : w5.frozen? ⟨b, 0, none⟩ = false := s5.f 0
              clear ha5
              refine hK.out _ _ (fun _ => s5) ?_
              replace hHeld := s5
              clear hK K
              try simp only [Act.put, List.setIfInBounds_toArray, List.set_cons_zero, List.set_cons_succ, List.getElem_toArray, List.getElem_cons_zero, List.getElem_cons_succ]
              refine wpAnyL_take [18, 19] (i := 17) (v := ?_) (by kernel_rfl) (by kernel_rfl) (by kernel_rfl) rfl (by kernel_rfl) (by kernel_rfl) (by kernel_rfl) (fun _ _ _ h => h) (Or.inl ⟨by rfl, ?_⟩) hHeld ?_
              rotate_left
              · (intro w hSw; (try dsimp only at hSw); skip; go_simp; try with_reducible rfl)
              try simp only [Act.put, List.setIfInBounds_toArray, List.set_cons_zero, List.set_cons_succ, List.getElem_toArray, List.getElem_cons_zero, List.getElem_cons_succ]
              refine wpAnyL_take [19] (i := 18) (v := ?_) (by kernel_rfl) (by kernel_rfl) (by kernel_rfl) rfl (by kernel_rfl) (by kernel_rfl) (by kernel_rfl) (fun _ _ _ h => h) (Or.inl ⟨by rfl, ?_⟩) hHeld ?_
              rotate_left
              · (intro w hSw; (try dsimp only at hSw); skip; go_simp; try with_reducible rfl)
              try simp only [Act.put, List.setIfInBounds_toArray, List.set_cons_zero, List.set_cons_succ, List.getElem_toArray, List.getElem_cons_zero, List.getElem_cons_succ]
              refine wpAnyL_one (i := 19) (by kernel_rfl) rfl (fun K hK => ?_)
              try dsimp only at hHeld
              go_simp
              refine hK.out _ _ (fun h => by cases h) ?_
              clear hK K
              try simp only [Act.put, List.setIfInBounds_toArray, List.set_cons_zero, List.set_cons_succ, List.getElem_toArray, List.getElem_cons_zero, List.getElem_cons_succ]
              refine wpAnyL_done (by kernel_rfl) ?_ _
              have H6 : Hid (RfC (w5.setCell ⟨b, 0, none⟩ (.slice p5 n5 c5)) base b (.slice p5 n5 c5) ⟨sz, wt, nx, e0, Lx ++ [⟨nx, t, 1, wt, 0, 0⟩]⟩ ∧ Fr [44, 41] [] base wr (w5.setCell ⟨b, 0, none⟩ (.slice p5 n5 c5))) := by
                have hb := below_new wd (.cells #[.int .u64 nx, .int .i64 t, .int .i64 1, .int .i64 wt, .int .i64 0, .int .i64 0] 44)
                have hr0 := owns_below HD.out.1 hb (Nat.le_refl _)
                have hfa := aps_fr hr0 HA5.out (Nat.le_trans HD.out.2.1 hb.size)
                have hf : Fr [41] [] base w5 (w5.setCell ⟨b, 0, none⟩ (.slice p5 n5 c5)) := fr_set s5 (by simp) HBB.out
                refine ⟨⟨HBB.out, s5.set 0 _, ?_⟩, HD.out.2.2.trans ((fr_below hb HD.out.2.1).trans ((hfa.mono (by simp) (by simp)).trans (hf.mono (by simp) (by simp))))⟩
                have h9 := HA5.out.own
                rw [← cellsE_one, ← cellsE_app] at h9
                have hl : (Lx ++ [(⟨nx, t, 1, wt, 0, 0⟩ : En)]).length = n + 1 := by rw [List.length_append, HLL.out]; rfl
                show World.ownsRow _ base 44 6 _ (Lx ++ [(⟨nx, t, 1, wt, 0, 0⟩ : En)]).length _
                rw [hl]
                exact owns_fr h9 hf (by simp) (fun _ _ => by simp)
              clear HA5 hcb hfb s5 HBD
              generalize (w5.setCell ⟨b, 0, none⟩ (.slice p5 n5 c5)) = W6 at *
              have k3 : W6.cell? ⟨b, 3, none⟩ = some (.int .u64 nx) := H6.out.1.blk.cell 3
              have f3 : W6.frozen? ⟨b, 3, none⟩ = false := H6.out.1.blk.f 3
              have w3' : IntKind.u64.wrap nx = nx := wrap_u' HNX.out.1 (by have := HNX.out; omega)
              have H7 : Hid (RfC (W6.setCell ⟨b, 3, none⟩ (.int .u64 (nx + 1))) base b (.slice p5 n5 c5) ⟨sz, wt, nx + 1, e0, Lx ++ [⟨nx, t, 1, wt, 0, 0⟩]⟩ ∧ Fr [44, 41] [] base wr (W6.setCell ⟨b, 3, none⟩ (.int .u64 (nx + 1)))) := by
                have hf : Fr [41] [] base W6 (W6.setCell ⟨b, 3, none⟩ (.int .u64 (nx + 1))) := fr_set H6.out.1.blk (by simp) HBB.out
                exact ⟨⟨HBB.out, H6.out.1.blk.set 3 _, owns_fr H6.out.1.row hf (by simp) (fun _ _ => by simp)⟩, H6.out.2.trans (hf.mono (by simp) (by simp))⟩
              go_wp2_with fail
              go_ret2
              exact ⟨by rw [HK.out.1, HK.out.2.1]; rfl, by rw [HK.out.2.2]; exact ⟨_, H7.out.1⟩, H7.out.2⟩
end Go.Proofs.Ytlckconhhhllkaa
