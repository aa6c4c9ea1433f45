/-
  PathNames, walked over any interface.
-/
import Derived.Test.YtkhojihmnplmcaaAgainW
import Derived.Deep.RegionWith
namespace Go.Proofs.Ytkhojihmnplmcaa
open Go.RowKit Go.Shelf

attribute [local go_sem] Oper.semAt_some

set_option maxHeartbeats 4000000 in
theorem names_far (J : Ifn) (w : World) (s : ByteArray) (m : Int) (h : 2000 < s.size ∨ m < 0) : Calls Try.prog 4 #[.string s, .int .i64 m] w (Tells w (.bool true)) := by
  have HB0 : Hid (Below w.heap.size w (w.alloc (.cells #[.int .i64 m] 3))) := below_new w _
  have HC0 : Hid (Boxed (w.alloc (.cells #[.int .i64 m] 3)) w.heap.size 3 (.int .i64 m)) := Boxed.new w _ _
  by_cases hs : 2000 < s.size
  · have r1 : (2000 : Int) < (s.size : Int) := by omega
    have r1' : decide ((2000 : Int) < (s.size : Int)) = true := decide_eq_true r1
    clear h
    go_enter Try.func4, Try.ntmps4
    have c9 := HC0.out.cell
    go_wp2_with fail
    refine (awake_any J.base _).mono ?_
    rintro e w1 ⟨rfl, hb1⟩
    have HB1 : Hid (Below w.heap.size w w1) := HB0.out.trans (hb1.mono HB0.out.size)
    have HC1 : Hid (Boxed w1 w.heap.size 3 (.int .i64 m)) := boxed_over HC0.out hb1
    clear hb1
    clear c9
    have c9 := HC1.out.cell
    go_wp2_with fail
    go_ret
    exact ⟨rfl, HB1.out⟩
  · have r1 : ¬ (2000 : Int) < (s.size : Int) := by omega
    have r1' : decide ((2000 : Int) < (s.size : Int)) = false := decide_eq_false r1
    have r2 : m < 0 := by omega
    have r2' : decide (m < (0 : Int)) = true := decide_eq_true r2
    clear h
    go_enter Try.func4, Try.ntmps4
    have c9 := HC0.out.cell
    go_wp2_with fail
    refine (awake_any J.base _).mono ?_
    rintro e w1 ⟨rfl, hb1⟩
    have HB1 : Hid (Below w.heap.size w w1) := HB0.out.trans (hb1.mono HB0.out.size)
    have HC1 : Hid (Boxed w1 w.heap.size 3 (.int .i64 m)) := boxed_over HC0.out hb1
    clear hb1
    clear c9
    have c9 := HC1.out.cell
    go_wp2_with fail
    go_ret
    exact ⟨rfl, HB1.out⟩

/-- between two rounds: what has come lies in the row. -/
def NmJ (w3 : World) (m : Int) (pre : List (List UInt8)) (W : World) : Prop :=
  (∃ v, Boxed W w3.heap.size 30 v ∧ W.ownsRow w3.heap.size 9 1 v pre.length (cellsT pre) ∧ True) ∧ (Below w3.heap.size w3 W ∧ (pre.length : Int) ≤ m)
theorem NmJ.own (w3 : World) (m : Int) (B : Nat) (hB : w3.heap.size ≤ B) : OwnFrom B (NmJ w3 m) :=
  OwnFrom.and (Own.from (holdsRow_own w3.heap.size w3.heap.size 30 9 1 (fun pre => pre.length) (fun pre => cellsT pre) (fun _ _ => True)) B) fun _ _ _ _ hs hg hr => ⟨hs.1.grown hg hs.1.size (fun j e => Nat.le_trans hB (hr j e).1), hs.2⟩
/-- behind the last one. -/
def NmX (w3 : World) (m : Int) (c : Code) (pre : List (List UInt8)) (W : World) : Prop := c = .exit 0 ∧ ∃ q x, pre = q ++ [x] ∧ (q.length : Int) = m ∧ NmJ w3 m q W
theorem NmX.own (w3 : World) (m : Int) (c : Code) (B : Nat) (hB : w3.heap.size ≤ B) : OwnFrom B (NmX w3 m c) := fun _ W W' row hs hg hr => by
  obtain ⟨h0, q, x, h1, h2, h3⟩ := hs
  exact ⟨h0, q, x, h1, h2, NmJ.own w3 m B hB q W W' row h3 hg hr⟩

theorem func_nil (gf : Nat) (lb : Array Value) (W : World) : (binOp .eql 28 (.func (.func gf) #[] lb) .nilFunc).run Try.prog W = .ok (.bool false) W := by rfl

set_option maxRecDepth 100000 in
set_option maxHeartbeats 16000000 in
theorem names_near (J : Ifn) (w : World) (s : ByteArray) (m : Int) (hs : s.size ≤ 2000) (hm : 0 ≤ m) : CallsIn Fence.wide 3 Try.prog 4 #[.string s, .int .i64 m] w (Tells w (.bool true)) := by
  have HB0 : Hid (Below w.heap.size w (w.alloc (.cells #[.int .i64 m] 3))) := below_new w _
  have HC0 : Hid (Boxed (w.alloc (.cells #[.int .i64 m] 3)) w.heap.size 3 (.int .i64 m)) := Boxed.new w _ _
  have r1 : ¬ (2000 : Int) < (s.size : Int) := by omega
  have r1' : decide ((2000 : Int) < (s.size : Int)) = false := decide_eq_false r1
  have r2 : ¬ m < 0 := by omega
  have r2' : decide (m < (0 : Int)) = false := decide_eq_false r2
  have HNM : Hid (∀ W, Calls Try.prog 16 #[.string s] W fun e w' => ∃ gf lb, e = .returned (.func (.func gf) #[] lb) ∧ Below W.heap.size W w' ∧ SeqN w' (lst s) gf lb) := fun W => J.names s W (by omega)
  have HRN : Hid (∀ W, Calls Try.prog 17 #[.string s] W fun e w' => RowR W (namesP (lst s)) e w') := fun W => rnames_any s W (by omega)
  have HJJ : Hid Ifn := J
  have HNL : Hid ((namesP (lst s)).length ≤ 2001 ∧ (joinF (namesP (lst s))).length ≤ 2000) := by
    have h1 := names_len (lst s)
    have h2 := len_joinF (namesP (lst s))
    rw [lst_length] at h1
    exact ⟨by omega, by omega⟩
  have hnil := func_nil
  clear hs hm
  refine callsIn_of_wp_marks Try.func4 rfl trivial ?_ rfl
  simp only [Try.ntmps4, List.size_toArray, List.length_cons, List.length_nil, Nat.reduceAdd, Nat.reduceSub, Array.replicate_succ, Array.replicate_zero, List.push_toArray, List.append_toArray, List.nil_append, List.cons_append]
  gi_wp2_with fail
  refine ⟨trivial, (callsIn_wide.2 (awake_any J.base _)).mono ?_⟩
  rintro e w1 ⟨rfl, hb1⟩
  have HB1 : Hid (Below w.heap.size w w1) := HB0.out.trans (hb1.mono HB0.out.size)
  have HC1 : Hid (Boxed w1 w.heap.size 3 (.int .i64 m)) := boxed_over HC0.out hb1
  have c1 := HC1.out.cell
  clear hb1
  gi_wp2_with fail
  refine ⟨trivial, (callsIn_wide.2 (HNM.out _)).mono ?_⟩
  rintro e w2 ⟨gf, lb, rfl, hb2, hsq⟩
  have HB2 : Hid (Below w.heap.size w w2) := HB1.out.trans (hb2.mono HB1.out.size)
  have HC2 : Hid (Boxed w2 w.heap.size 3 (.int .i64 m)) := boxed_over HC1.out hb2
  clear hb2 c1
  gi_wp2_with fail
  refine ⟨trivial, (callsIn_wide.2 (HRN.out _)).mono ?_⟩
  rintro e w3 ⟨v3, rfl, hown3, hb3⟩
  obtain ⟨p3, c3, rfl⟩ := row_form hown3
  have HB3 : Hid (Below w.heap.size w w3 ∧ Below w2.heap.size w2 w3) := ⟨HB2.out.trans (hb3.mono HB2.out.size), hb3⟩
  have HC3 : Hid (Boxed w3 w.heap.size 3 (.int .i64 m)) := boxed_over HC2.out hb3
  have HO3 : Hid (w3.ownsRow w2.heap.size 9 1 (.slice p3 (namesP (lst s)).length c3) (namesP (lst s)).length (cellsT (namesP (lst s)))) := hown3
  have HSQ : Hid (SeqN w2 (lst s) gf lb) := hsq
  clear hb3 hown3 hsq
  have HG : Hid (Boxed (w3.alloc (.cells #[.slice none 0 0] 30)) w3.heap.size 30 (.slice none 0 0)) := Boxed.new w3 _ _
  have HBW : Below w2.heap.size w2 (w3.alloc (.cells #[.slice none 0 0] 30)) := HB3.out.2.trans ((below_new w3 _).mono HB3.out.2.size)
  have HB4 : Hid (Below w3.heap.size w3 (w3.alloc (.cells #[.slice none 0 0] 30)) ∧ w2.heap.size ≤ w3.heap.size ∧ w.heap.size ≤ w3.heap.size) := ⟨below_new w3 _, HB3.out.2.size, HB3.out.1.size⟩
  gi_wp2_with fail
  refine' wpIn_rangeFunc_ownG (F := Fence.wide) rfl (by decide) (gf := gf) (lb := lb) rfl trivial HSQ.out.ent HSQ.out.stops belowK_t (belowK_b (by have := HB4.out.2.1; simp; omega)) HBW (fun _ => rfl)
    (NmJ w3 m) (NmX w3 m) (NmJ.own w3 m _ (by simp)) (fun c => NmX.own w3 m c _ (by simp)) ?h0 _ ?assign ?body ?done ?stop
  case h0 => exact ⟨⟨_, HG.out, ⟨rfl, .inl ⟨rfl, rfl⟩⟩, trivial⟩, HB4.out.1, by show (0 : Int) ≤ m; omega⟩
  case assign =>
    intro l' x W K hK
    simp only [encT]
    gi_wp2
    exact hK
  case body =>
    rintro l' pre x W ⟨⟨v, hv, hrow, -⟩, hbw, hpm⟩ hlt
    have hbm : Boxed W w.heap.size 3 (.int .i64 m) := boxed_over HC3.out hbw
    have cm := hbm.cell
    have cv := hv.cell
    have hl2 : pre.length ≤ 2001 := by have := HNL.out.1; omega
    obtain ⟨p, c, rfl⟩ := row_form hrow
    have HI : Hid (Boxed W w3.heap.size 30 (.slice p pre.length c) ∧ W.ownsRow w3.heap.size 9 1 (.slice p pre.length c) pre.length (cellsT pre) ∧ Below w3.heap.size w3 W) := ⟨hv, hrow, hbw⟩
    have HPM : Hid ((pre.length : Int) ≤ m) := hpm
    clear hv hrow hbw hpm hlt hbm
    by_cases hfull : m ≤ (pre.length : Int)
    · have hf2 : decide (m ≤ (pre.length : Int)) = true := decide_eq_true hfull
      have HQX : Hid ((pre.length : Int) = m) := by have := HPM.out; show _ = _; omega
      gi_wp2
      exact ⟨KeepsFrom.refl _ _, rfl, pre, x, rfl, HQX.out, ⟨⟨_, HI.out.1, HI.out.2.1, trivial⟩, HI.out.2.2, HPM.out⟩⟩
    · have hf2 : decide (m ≤ (pre.length : Int)) = false := decide_eq_false hfull
      obtain ⟨i0, hi, hz0, hz1, hz2⟩ := info_parts ety_s.info
      have HLT : Hid ((pre.length : Int) < m) := by show _ < _; omega
      have hal := HI.out.2.1.alloc (.cells #[.string (bar x)] 9)
      have hsz : w3.heap.size ≤ (W.alloc (.cells #[.string (bar x)] 9)).heap.size := Nat.le_trans HI.out.2.2.size (below_new W _).size
      gi_wp2_with (first
        | (gi_at_builtin; refine wpListIn_append_own _ rfl _ _ 30 rfl w3.heap.size 9 i0 (.string ⟨#[]⟩) 1 16 ety_s.ht hi hz0 hz1 hz2 rfl (by decide) _ _ _ rfl hal ⟨W.heap.size, 0, none⟩ 1 1 [.string (bar x)] rfl rfl (cell_one_new _ _ _) (by intro u hu; rw [List.mem_singleton.1 hu]; rfl) (by unfold maxLen; omega) (by omega) hsz ?_; intro v' w5 hown' hg5 hnil5; clear hnil5; obtain ⟨p5, c5, hv5⟩ := row_form hown'; subst hv5; obtain ⟨hv1, hv2, hr2, hk2, hb2⟩ := Boxed.appended HI.out.1 (by decide) HI.out.2.1 HI.out.2.2.size (Nat.le_refl _) hown' hg5; have hc1 := hv1.cell; have hf1 := hv1.frozen)
        | gi_in)
      have e1 : cellsT pre ++ [.string (bar x)] = cellsT (pre ++ [x]) := by rw [cellsT_app]; rfl
      rw [e1] at hr2
      exact ⟨hk2.from _, hb2.mono HB4.out.2.1, ⟨_, hv2, by rw [List.length_append]; exact hr2, trivial⟩, HI.out.2.2.trans hb2, by have := HLT.out; rw [List.length_append]; simp; omega⟩
  case done =>
    rintro D ys W hD rfl ⟨⟨v, hv, hrow, -⟩, hbw, hpm⟩ hK
    have HQ : Hid (namesP (lst s) <+: namesP (lst s) ∧ ((namesP (lst s)).length : Int) = min m ((namesP (lst s)).length : Int)) := ⟨List.prefix_refl _, by omega⟩
    obtain ⟨p, c9, rfl⟩ := row_form hrow
    have hbm : Boxed W w.heap.size 3 (.int .i64 m) := boxed_over HC3.out hbw
    have HV : Hid (Boxed W w3.heap.size 30 (.slice p (namesP (lst s)).length c9) ∧ W.ownsRow w3.heap.size 9 1 (.slice p (namesP (lst s)).length c9) (namesP (lst s)).length (cellsT (namesP (lst s))) ∧ Below w3.heap.size w3 W ∧ W.ownsRow w2.heap.size 9 1 (.slice p3 (namesP (lst s)).length c3) (namesP (lst s)).length (cellsT (namesP (lst s)))) := ⟨hv, hrow, hbw, owns_below HO3.out hbw (Nat.le_refl _)⟩
    have HK : Hid (W.heap[D]? = some (.deferred (some [])) ∧ w.heap.size ≤ D) := ⟨hK, by have := HB4.out.2.2; simp at hD; omega⟩
    have cv := hv.cell
    have cm := hbm.cell
    have hq1 : (namesP (lst s)).length ≤ 2001 := by have h1 := HQ.out.1.length_le; have h2 := HNL.out.1; omega
    have hq2 : (namesP (lst s)).length ≤ 2001 := HNL.out.1
    have hmin : (if ((namesP (lst s)).length : Int) < m then ((namesP (lst s)).length : Int) else m) = ((namesP (lst s)).length : Int) := by
      have := HQ.out.2
      split <;> omega
    clear hv hrow hbw hpm hbm hK
    gi_wp2_with fail
    gi_loopw [10] (fun v10 wr => ∃ i : Nat, v10 = .int .i64 i ∧ i ≤ (namesP (lst s)).length ∧ ∃ k, wr = W.drewN k) (fun v10 _ => (namesP (lst s)).length - (intOf v10).toNat)
    case atStart => exact ⟨0, rfl, Nat.zero_le _, 0, rfl⟩
    case round =>
      obtain ⟨i, rfl, hi, k, hwk⟩ := hrel
      have HW : Hid (Below W.heap.size W wr ∧ wr.heap[D]? = some (.deferred (some [])) ∧ wr = W.drewN k) := by
        rw [hwk]
        exact ⟨below_drewN W k, HK.out.1, rfl⟩
      have HR : Hid (Boxed wr w3.heap.size 30 (.slice p (namesP (lst s)).length c9) ∧ wr.ownsRow w3.heap.size 9 1 (.slice p (namesP (lst s)).length c9) (namesP (lst s)).length (cellsT (namesP (lst s))) ∧ Below w3.heap.size w3 wr ∧ wr.ownsRow w2.heap.size 9 1 (.slice p3 (namesP (lst s)).length c3) (namesP (lst s)).length (cellsT (namesP (lst s)))) :=
        ⟨boxed_over HV.out.1 HW.out.1, owns_below HV.out.2.1 HW.out.1 (Nat.le_refl _), HV.out.2.2.1.trans (HW.out.1.mono HV.out.2.2.1.size), owns_below HV.out.2.2.2 HW.out.1 (Nat.le_refl _)⟩
      have cq := HR.out.1.cell
      clear hwk
      by_cases hlt : i < (namesP (lst s)).length
      · have hi1 : (i : Int) < ((namesP (lst s)).length : Int) := by omega
        have hiL : i < (namesP (lst s)).length := Nat.lt_of_lt_of_le hlt HQ.out.1.length_le
        have hi2 : (i : Int) < ((namesP (lst s)).length : Int) := by omega
        obtain ⟨g1, e1, _, hc1⟩ := row_atT HR.out.2.1 hlt
        obtain ⟨g2, e2, _, hc2⟩ := row_atT HR.out.2.2.2 hiL
        subst e1 e2
        have hcm : ((bar (namesP (lst s))[i]).toList == (bar (namesP (lst s))[i]).toList) = true := by
          rw [HQ.out.1.getElem hlt]
          exact beq_self_eq_true _
        clear cv
        gi_wp2_with fail
        refine wpIn_wide.2 ?_
        go_quiet (fail)
        gi_wp2_with fail
        go_roundw
        case rel => exact ⟨i + 1, by go_num, hlt, k + nq, by rw [HW.out.2.2, World.drewN_drewN]⟩
        case measure => simp [intOf]; omega
      · have hi1 : ¬ (i : Int) < ((namesP (lst s)).length : Int) := by omega
        have HTX : Hid (∀ X, Below wr.heap.size wr X → X.cell? ⟨w3.heap.size, 0, none⟩ = some (.slice p (namesP (lst s)).length c9) ∧ TxR X (.slice p (namesP (lst s)).length c9) (namesP (lst s))) := fun X hX => ⟨(boxed_over HR.out.1 hX).cell, tx_row (owns_below HR.out.2.1 hX (Nat.le_refl _))⟩
        have HJL : Hid ((namesP (lst s)).length ≤ 100000 ∧ (joinF (namesP (lst s))).length ≤ 1000000) := by
          refine ⟨by omega, ?_⟩
          obtain ⟨z, hz⟩ := HQ.out.1
          have h1 := HNL.out.2
          rw [← hz, joinF_app, List.length_append] at h1
          omega
        have HJ1 : Hid (∀ X, Below wr.heap.size wr X → Calls Try.prog 18 #[.slice p (namesP (lst s)).length c9] X fun e w' => e = .returned (.string (bar (joinP (namesP (lst s))))) ∧ Below wr.heap.size wr w') := fun X hX => (HJJ.out.join _ _ _ X (owns_below HR.out.2.1 hX (Nat.le_refl _)) HJL.out.1 HJL.out.2).mono fun e w' ⟨h1, h2⟩ => ⟨h1, hX.trans (h2.mono hX.size)⟩
        have HJ2 : Hid (∀ X, Below wr.heap.size wr X → Calls Try.prog 19 #[.slice p (namesP (lst s)).length c9] X fun e w' => e = .returned (.string (bar (joinP (namesP (lst s))))) ∧ Below wr.heap.size wr w') := fun X hX => (rjoin_any _ _ X (HTX.out X hX).2 HJL.out.1 HJL.out.2).mono fun e w' ⟨h1, h2⟩ => ⟨h1, h2 ▸ hX⟩
        clear cv cm hmin
        gi_wp2_with fail
        refine wpIn_wide.2 ?_
        refine wp_mono (Q := fun e => match e with
          | .normal => fun a' w' => a'.tmps.getD 4 undef = .bool true ∧ a'.defers = [{ target := .collected D, args := #[] }] ∧ Below wr.heap.size wr w'
          | _ => fun _ _ => False) ?reg ?rest
        case reg =>
          have s0 : Below wr.heap.size wr wr.drew := (Below.refl wr.heap.size wr).drew
          go_region_with (first
            | (go_at_call 18; refine (HJ1.out _ (by assumption)).mono ?_; rintro e w8 ⟨rfl, s8⟩; have hc8 := (HTX.out _ s8).1)
            | (go_at_call 19; refine (HJ2.out _ (by assumption)).mono ?_; rintro e w9 ⟨rfl, s9⟩))
          all_goals
            exact ⟨rfl, rfl, s9⟩
        case rest =>
          intro e a' w' hh
          cases e with
          | normal =>
            obtain ⟨tm, df⟩ := a'
            obtain ⟨h1, h2, h3⟩ := hh
            simp only at h1 h2
            subst h2
            have hDlt : D < wr.heap.size := (Array.getElem?_eq_some_iff.1 HW.out.2.1).1
            have hK' : w'.heap[D]? = some (.deferred (some [])) := (h3.block D hDlt).trans HW.out.2.1
            have hB1 : Below w.heap.size w wr := (HB3.out.1.trans (HV.out.2.2.1.mono HB4.out.2.2)).trans (HW.out.1.mono (Nat.le_trans HB4.out.2.2 HV.out.2.2.1.size))
            have hfin : Below w.heap.size w w' := hB1.trans (h3.mono hB1.size)
            have hend := hfin.trans (belowK_b (w := w) (Nat.le_refl _) _ D _ (.deferred none) HK.out.2 hK' rfl rfl)
            show Exit.then _ _ Exit.normal _ _
            simp only [Exit.then]
            rename_i hKx
            refine hKx _ _ ?_
            gi_wp2
            refine ⟨by simp, .inl ⟨_, _, rfl, run_takeDeferred hK', ?_⟩⟩
            exact ⟨_, results_tmp rfl _ _ _, by rw [h1], hend⟩
          | _ => exact hh.elim
  case stop =>
    rintro D c pre W hD hS ⟨rfl, q, x, rfl, hqm, ⟨v, hv, hrow, -⟩, hbw, hpm⟩ hK
    have HQ : Hid (q <+: namesP (lst s) ∧ (q.length : Int) = min m ((namesP (lst s)).length : Int)) := by
      refine ⟨(List.prefix_append q [x]).trans hS, ?_⟩
      have := hS.length_le
      rw [List.length_append] at this
      simp at this
      omega
    clear hqm
    obtain ⟨p, c9, rfl⟩ := row_form hrow
    have hbm : Boxed W w.heap.size 3 (.int .i64 m) := boxed_over HC3.out hbw
    have HV : Hid (Boxed W w3.heap.size 30 (.slice p q.length c9) ∧ W.ownsRow w3.heap.size 9 1 (.slice p q.length c9) q.length (cellsT q) ∧ Below w3.heap.size w3 W ∧ W.ownsRow w2.heap.size 9 1 (.slice p3 (namesP (lst s)).length c3) (namesP (lst s)).length (cellsT (namesP (lst s)))) := ⟨hv, hrow, hbw, owns_below HO3.out hbw (Nat.le_refl _)⟩
    have HK : Hid (W.heap[D]? = some (.deferred (some [])) ∧ w.heap.size ≤ D) := ⟨hK, by have := HB4.out.2.2; simp at hD; omega⟩
    have cv := hv.cell
    have cm := hbm.cell
    have hq1 : q.length ≤ 2001 := by have h1 := HQ.out.1.length_le; have h2 := HNL.out.1; omega
    have hq2 : (namesP (lst s)).length ≤ 2001 := HNL.out.1
    have hmin : (if ((namesP (lst s)).length : Int) < m then ((namesP (lst s)).length : Int) else m) = (q.length : Int) := by
      have := HQ.out.2
      split <;> omega
    clear hv hrow hbw hpm hbm hK
    gi_wp2_with fail
    gi_loopw [10] (fun v10 wr => ∃ i : Nat, v10 = .int .i64 i ∧ i ≤ q.length ∧ ∃ k, wr = W.drewN k) (fun v10 _ => q.length - (intOf v10).toNat)
    case atStart => exact ⟨0, rfl, Nat.zero_le _, 0, rfl⟩
    case round =>
      obtain ⟨i, rfl, hi, k, hwk⟩ := hrel
      have HW : Hid (Below W.heap.size W wr ∧ wr.heap[D]? = some (.deferred (some [])) ∧ wr = W.drewN k) := by
        rw [hwk]
        exact ⟨below_drewN W k, HK.out.1, rfl⟩
      have HR : Hid (Boxed wr w3.heap.size 30 (.slice p q.length c9) ∧ wr.ownsRow w3.heap.size 9 1 (.slice p q.length c9) q.length (cellsT q) ∧ Below w3.heap.size w3 wr ∧ wr.ownsRow w2.heap.size 9 1 (.slice p3 (namesP (lst s)).length c3) (namesP (lst s)).length (cellsT (namesP (lst s)))) :=
        ⟨boxed_over HV.out.1 HW.out.1, owns_below HV.out.2.1 HW.out.1 (Nat.le_refl _), HV.out.2.2.1.trans (HW.out.1.mono HV.out.2.2.1.size), owns_below HV.out.2.2.2 HW.out.1 (Nat.le_refl _)⟩
      have cq := HR.out.1.cell
      clear hwk
      by_cases hlt : i < q.length
      · have hi1 : (i : Int) < (q.length : Int) := by omega
        have hiL : i < (namesP (lst s)).length := Nat.lt_of_lt_of_le hlt HQ.out.1.length_le
        have hi2 : (i : Int) < ((namesP (lst s)).length : Int) := by omega
        obtain ⟨g1, e1, _, hc1⟩ := row_atT HR.out.2.1 hlt
        obtain ⟨g2, e2, _, hc2⟩ := row_atT HR.out.2.2.2 hiL
        subst e1 e2
        have hcm : ((bar q[i]).toList == (bar (namesP (lst s))[i]).toList) = true := by
          rw [HQ.out.1.getElem hlt]
          exact beq_self_eq_true _
        clear cv
        gi_wp2_with fail
        refine wpIn_wide.2 ?_
        go_quiet (fail)
        gi_wp2_with fail
        go_roundw
        case rel => exact ⟨i + 1, by go_num, hlt, k + nq, by rw [HW.out.2.2, World.drewN_drewN]⟩
        case measure => simp [intOf]; omega
      · have hi1 : ¬ (i : Int) < (q.length : Int) := by omega
        have HTX : Hid (∀ X, Below wr.heap.size wr X → X.cell? ⟨w3.heap.size, 0, none⟩ = some (.slice p q.length c9) ∧ TxR X (.slice p q.length c9) q) := fun X hX => ⟨(boxed_over HR.out.1 hX).cell, tx_row (owns_below HR.out.2.1 hX (Nat.le_refl _))⟩
        have HJL : Hid (q.length ≤ 100000 ∧ (joinF q).length ≤ 1000000) := by
          refine ⟨by omega, ?_⟩
          obtain ⟨z, hz⟩ := HQ.out.1
          have h1 := HNL.out.2
          rw [← hz, joinF_app, List.length_append] at h1
          omega
        have HJ1 : Hid (∀ X, Below wr.heap.size wr X → Calls Try.prog 18 #[.slice p q.length c9] X fun e w' => e = .returned (.string (bar (joinP q))) ∧ Below wr.heap.size wr w') := fun X hX => (HJJ.out.join _ _ _ X (owns_below HR.out.2.1 hX (Nat.le_refl _)) HJL.out.1 HJL.out.2).mono fun e w' ⟨h1, h2⟩ => ⟨h1, hX.trans (h2.mono hX.size)⟩
        have HJ2 : Hid (∀ X, Below wr.heap.size wr X → Calls Try.prog 19 #[.slice p q.length c9] X fun e w' => e = .returned (.string (bar (joinP q))) ∧ Below wr.heap.size wr w') := fun X hX => (rjoin_any _ _ X (HTX.out X hX).2 HJL.out.1 HJL.out.2).mono fun e w' ⟨h1, h2⟩ => ⟨h1, h2 ▸ hX⟩
        clear cv cm hmin
        gi_wp2_with fail
        refine wpIn_wide.2 ?_
        refine wp_mono (Q := fun e => match e with
          | .normal => fun a' w' => a'.tmps.getD 4 undef = .bool true ∧ a'.defers = [{ target := .collected D, args := #[] }] ∧ Below wr.heap.size wr w'
          | _ => fun _ _ => False) ?reg ?rest
        case reg =>
          have s0 : Below wr.heap.size wr wr.drew := (Below.refl wr.heap.size wr).drew
          go_region_with (first
            | (go_at_call 18; refine (HJ1.out _ (by assumption)).mono ?_; rintro e w8 ⟨rfl, s8⟩; have hc8 := (HTX.out _ s8).1)
            | (go_at_call 19; refine (HJ2.out _ (by assumption)).mono ?_; rintro e w9 ⟨rfl, s9⟩))
          all_goals
            exact ⟨rfl, rfl, s9⟩
        case rest =>
          intro e a' w' hh
          cases e with
          | normal =>
            obtain ⟨tm, df⟩ := a'
            obtain ⟨h1, h2, h3⟩ := hh
            simp only at h1 h2
            subst h2
            have hDlt : D < wr.heap.size := (Array.getElem?_eq_some_iff.1 HW.out.2.1).1
            have hK' : w'.heap[D]? = some (.deferred (some [])) := (h3.block D hDlt).trans HW.out.2.1
            have hB1 : Below w.heap.size w wr := (HB3.out.1.trans (HV.out.2.2.1.mono HB4.out.2.2)).trans (HW.out.1.mono (Nat.le_trans HB4.out.2.2 HV.out.2.2.1.size))
            have hfin : Below w.heap.size w w' := hB1.trans (h3.mono hB1.size)
            have hend := hfin.trans (belowK_b (w := w) (Nat.le_refl _) _ D _ (.deferred none) HK.out.2 hK' rfl rfl)
            show Exit.then _ _ Exit.normal _ _
            simp only [Exit.then]
            rename_i hKx
            refine hKx _ _ ?_
            gi_wp2
            refine ⟨by simp, .inl ⟨_, _, rfl, run_takeDeferred hK', ?_⟩⟩
            exact ⟨_, results_tmp rfl _ _ _, by rw [h1], hend⟩
          | _ => exact hh.elim

theorem names_walk (J : Ifn) (w : World) (s : ByteArray) (m : Int) : Calls Try.prog 4 #[.string s, .int .i64 m] w (Tells w (.bool true)) := by
  by_cases h : 2000 < s.size ∨ m < 0
  · exact names_far J w s m h
  · exact callsIn_wide.1 (names_near J w s m (by omega) (by omega))

end Go.Proofs.Ytkhojihmnplmcaa
