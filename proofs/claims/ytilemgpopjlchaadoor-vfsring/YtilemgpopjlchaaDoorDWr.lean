/-
  What is wrong with a node behind others, as the document tells it; the document's Check.
-/
import Derived.Test.YtilemgpopjlchaaDoorDFn
namespace Go.Proofs.YtilemgpopjlchaaDoor
open Go.RowKit

theorem wrong_one {A : List Nd} {x : Nd} (h : cleanOk x.p = false ∨ x.p = [47] ∨ kindOk x = false) : wrongN A x = 1 := by
  unfold wrongN
  rw [if_neg]
  simp only [Bool.and_eq_true, decide_eq_true_eq]
  rintro ⟨⟨h1, h2⟩, h3⟩
  rcases h with h | h | h
  · rw [h] at h1; cases h1
  · exact h2 h
  · rw [h] at h3; cases h3
theorem wrong_two {A : List Nd} {x : Nd} (h1 : cleanOk x.p = true) (h2 : x.p ≠ [47]) (h3 : kindOk x = true) : wrongN A x = if (findL A x.p).isSome = true then 9 else upE A x := by
  unfold wrongN
  rw [if_pos (by simp only [Bool.and_eq_true, decide_eq_true_eq]; exact ⟨⟨h1, h2⟩, h3⟩)]
theorem clean_bad {s : ByteArray} (h : rightP (lst s) = false ∨ cleanP (lst s) ≠ lst s) : cleanOk (lst s) = false := by
  unfold cleanOk
  rcases h with h | h
  · rw [h]; rfl
  · rw [decide_eq_false h, Bool.and_false]
theorem clean_good {s : ByteArray} (h : rightP (lst s) = true) (h2 : cleanP (lst s) = lst s) : cleanOk (lst s) = true := by
  unfold cleanOk
  rw [h, decide_eq_true h2]
  rfl

theorem kind_one (p t : Nm) : kindOk ⟨p, 1, t⟩ = decide (t = []) := by
  show (if (1 : Int) = 3 then _ else _) = _
  rw [if_neg (by decide)]
  rfl
theorem kind_two (p t : Nm) : kindOk ⟨p, 2, t⟩ = decide (t = []) := by
  show (if (2 : Int) = 3 then _ else _) = _
  rw [if_neg (by decide)]
  rfl
theorem kind_bad {p t : Nm} {k : Int} (h1 : k ≠ 1) (h2 : k ≠ 2) (h3 : k ≠ 3) : kindOk ⟨p, k, t⟩ = false := by
  unfold kindOk
  rw [if_neg h3]
  show ((decide (k = 1) || decide (k = 2)) && _) = false
  rw [decide_eq_false h1, decide_eq_false h2]
  rfl

set_option maxHeartbeats 16000000 in
/-- of a node by its cells. -/
theorem dwrong_at (v : Value) (A : List Nd) (sp st : ByteArray) (k : Int) (w : World) (h : NdR w v A) (hl : A.length ≤ 1000) (hs : sp.size ≤ 90000) :
    Calls Tryd.prog 21 #[v, .agg #[.string sp, .int .i64 k, .string st]] w (Tells w (.int .i64 (wrongN A ⟨lst sp, k, lst st⟩))) := by
  have HA0 : Hid ((∀ o : Obj, Below w.heap.size w (w.alloc o)) ∧ NdR (w.alloc (.cells #[.string sp, .int .i64 k, .string st] 29)) v A) := ⟨fun o => below_new w o, h.over (below_new w _)⟩
  clear h
  have HB0 : Hid (Below w.heap.size w (w.alloc (.cells #[.string sp, .int .i64 k, .string st] 29)) ∧ NdR (w.alloc (.cells #[.string sp, .int .i64 k, .string st] 29)) v A ∧ Blk (w.alloc (.cells #[.string sp, .int .i64 k, .string st] 29)) w.heap.size 29 [.string sp, .int .i64 k, .string st]) := ⟨HA0.out.1 _, HA0.out.2, heap_alloc_new w _⟩
  have HCL : Hid (∀ W, Calls Tryd.prog 37 #[.string sp] W fun e w' => e = .returned (.tuple #[.string (bar (cleanP (lst sp))), .int .i64 (errP (lst sp))]) ∧ Below W.heap.size W w') := fun W => rclean_any sp W hs
  obtain ⟨c0, c1, c2⟩ := nd_cells w (.string sp) (.int .i64 k) (.string st)
  by_cases hr : rightP (lst sp) = true
  case neg =>
    rw [Bool.not_eq_true] at hr
    have HW : Hid (wrongN A ⟨lst sp, k, lst st⟩ = 1) := wrong_one (.inl (clean_bad (.inl hr)))
    rw [err_no hr] at HCL
    clear hr
    generalize bar (cleanP (lst sp)) = cp at *
    go_enter Tryd.func21, Tryd.ntmps21
    go_wp2_with fail
    refine (HCL.out _).mono ?_
    rintro e w1 ⟨rfl, hb1⟩
    have H1 : Hid (Below w.heap.size w w1) := HB0.out.1.trans (hb1.mono HB0.out.1.size)
    clear hb1
    go_wp2_with fail
    go_ret
    exact ⟨by rw [HW.out]; rfl, H1.out⟩
  rw [err_ok hr] at HCL
  have HBN : Hid (∀ w1, Below (w.alloc (.cells #[.string sp, .int .i64 k, .string st] 29)).heap.size (w.alloc (.cells #[.string sp, .int .i64 k, .string st] 29)) w1 → Below w.heap.size w w1 ∧ NdR w1 v A ∧ Blk w1 w.heap.size 29 [.string sp, .int .i64 k, .string st]) := fun w1 hb1 => ⟨HB0.out.1.trans (hb1.mono HB0.out.1.size), HB0.out.2.1.over hb1, HB0.out.2.2.over hb1⟩
  by_cases hcp : cleanP (lst sp) = lst sp
  case neg =>
    have HW : Hid (wrongN A ⟨lst sp, k, lst st⟩ = 1) := wrong_one (.inl (clean_bad (.inr hcp)))
    have q1 : ((bar (cleanP (lst sp))).toList == sp.toList) = false := by rw [toList_bar, toList_lst]; exact beq_eq_false_iff_ne.2 hcp
    clear hcp hr
    generalize bar (cleanP (lst sp)) = cp at *
    go_enter Tryd.func21, Tryd.ntmps21
    go_wp2_with fail
    refine (HCL.out _).mono ?_
    rintro e w1 ⟨rfl, hb1⟩
    have H1 := HBN.out w1 hb1
    have d0 := H1.2.2.cell 0
    have d1 := H1.2.2.cell 1
    have d2 := H1.2.2.cell 2
    simp only [List.getElem?_cons_zero, List.getElem?_cons_succ] at d0 d1 d2
    have H1' : Hid _ := H1
    clear hb1 H1 c0 c1 c2
    go_wp2_with fail
    go_ret
    exact ⟨by rw [HW.out]; rfl, H1'.out.1⟩
  have hcl : cleanOk (lst sp) = true := clean_good hr hcp
  have HUP : Hid (∀ W, Calls Tryd.prog 39 #[.string sp] W fun e w' => e = .returned (.tuple #[.string (bar (upP (lst sp))), .int .i64 0]) ∧ Below W.heap.size W w') := fun W => by
    have := rup_any sp W hs
    rw [err_ok hr] at this
    exact this
  rw [hcp, bar_lst] at HCL
  clear hr hcp
  by_cases hroot : lst sp = [47]
  case pos =>
    have HW : Hid (wrongN A ⟨lst sp, k, lst st⟩ = 1) := wrong_one (.inr (.inl hroot))
    have q1 : (sp.toList == [47]) = true := by rw [toList_lst, hroot]; rfl
    clear hroot hcl
    go_enter Tryd.func21, Tryd.ntmps21
    go_wp2_with fail
    refine (HCL.out _).mono ?_
    rintro e w1 ⟨rfl, hb1⟩
    have H1 := HBN.out w1 hb1
    have d0 := H1.2.2.cell 0
    have d1 := H1.2.2.cell 1
    have d2 := H1.2.2.cell 2
    simp only [List.getElem?_cons_zero, List.getElem?_cons_succ] at d0 d1 d2
    have H1' : Hid _ := H1
    clear hb1 H1 c0 c1 c2
    go_wp2_with fail
    go_ret
    exact ⟨by rw [HW.out]; rfl, H1'.out.1⟩
  have q1 : (sp.toList == [47]) = false := by rw [toList_lst]; exact beq_eq_false_iff_ne.2 hroot
  by_cases hk1 : k < 1
  case pos =>
    have HW : Hid (wrongN A ⟨lst sp, k, lst st⟩ = 1) := wrong_one (.inr (.inr (kind_bad (by omega) (by omega) (by omega))))
    have q2 : decide (k < 1) = true := decide_eq_true hk1
    clear hroot hcl
    go_enter Tryd.func21, Tryd.ntmps21
    go_wp2_with fail
    refine (HCL.out _).mono ?_
    rintro e w1 ⟨rfl, hb1⟩
    have H1 := HBN.out w1 hb1
    have d0 := H1.2.2.cell 0
    have d1 := H1.2.2.cell 1
    have d2 := H1.2.2.cell 2
    simp only [List.getElem?_cons_zero, List.getElem?_cons_succ] at d0 d1 d2
    have H1' : Hid _ := H1
    clear hb1 H1 c0 c1 c2
    go_wp2_with fail
    go_ret
    exact ⟨by rw [HW.out]; rfl, H1'.out.1⟩
  have q2 : decide (k < 1) = false := decide_eq_false hk1
  by_cases hk3 : 3 < k
  case pos =>
    have HW : Hid (wrongN A ⟨lst sp, k, lst st⟩ = 1) := wrong_one (.inr (.inr (kind_bad (by omega) (by omega) (by omega))))
    have q3 : decide (3 < k) = true := decide_eq_true hk3
    clear hroot hcl
    go_enter Tryd.func21, Tryd.ntmps21
    go_wp2_with fail
    refine (HCL.out _).mono ?_
    rintro e w1 ⟨rfl, hb1⟩
    have H1 := HBN.out w1 hb1
    have d0 := H1.2.2.cell 0
    have d1 := H1.2.2.cell 1
    have d2 := H1.2.2.cell 2
    simp only [List.getElem?_cons_zero, List.getElem?_cons_succ] at d0 d1 d2
    have H1' : Hid _ := H1
    clear hb1 H1 c0 c1 c2
    go_wp2_with fail
    go_ret
    exact ⟨by rw [HW.out]; rfl, H1'.out.1⟩
  have HFD : Hid (∀ (s : ByteArray) W, NdR W v A → Calls Tryd.prog 14 #[v, .string s] W (Tells W (tellF (findN A (lst s))))) := fun s W h => dfind_any v A s W h hl
  have hk : k = 3 ∨ k = 1 ∨ k = 2 := by omega
  clear q2 hk1 hk3
  rcases hk with rfl | rfl | rfl
  · cases ht : targetOk (lst st) with
    | false =>
      have HT : Hid (∀ W, Calls Tryd.prog 38 #[.string st] W fun e w' => e = .returned (.bool false) ∧ w' = W) := fun W => by
        have := dtarget_any st W
        rw [ht] at this
        exact this
      have HW : Hid (wrongN A ⟨lst sp, 3, lst st⟩ = 1) := wrong_one (.inr (.inr (by unfold kindOk; rw [if_pos rfl]; exact ht)))
      clear ht hroot hcl
      go_enter Tryd.func21, Tryd.ntmps21
      go_wp2_with fail
      refine (HCL.out _).mono ?_
      rintro e w1 ⟨rfl, hb1⟩
      have H1 := HBN.out w1 hb1
      have d0 := H1.2.2.cell 0
      have d1 := H1.2.2.cell 1
      have d2 := H1.2.2.cell 2
      simp only [List.getElem?_cons_zero, List.getElem?_cons_succ] at d0 d1 d2
      have H1' : Hid _ := H1
      clear hb1 H1 c0 c1 c2
      go_wp2_with fail
      refine (HT.out _).mono ?_
      rintro e w9 ⟨rfl, hw9⟩; subst w9
      go_wp2_with fail
      go_ret
      exact ⟨by rw [HW.out]; rfl, H1'.out.1⟩
    | true =>
      have HT : Hid (∀ W, Calls Tryd.prog 38 #[.string st] W fun e w' => e = .returned (.bool true) ∧ w' = W) := fun W => by
        have := dtarget_any st W
        rw [ht] at this
        exact this
      have hkd : kindOk ⟨lst sp, 3, lst st⟩ = true := by unfold kindOk; rw [if_pos rfl]; exact ht
      clear ht
      have HWX : Hid (wrongN A ⟨lst sp, 3, lst st⟩ = if (findL A (lst sp)).isSome = true then 9 else upE A ⟨lst sp, 3, lst st⟩) := wrong_two hcl hroot hkd
      clear hkd hcl
      cases hf : findL A (lst sp) with
      | some x =>
        have HW : Hid (wrongN A ⟨lst sp, 3, lst st⟩ = 9) := by show _ = _; rw [HWX.out, hf]; rfl
        have HF1 : Hid (∀ W, NdR W v A → Calls Tryd.prog 14 #[v, .string sp] W (Tells W (.tuple #[.agg #[.string (bar x.p), .int .i64 x.k, .string (bar x.t)], .bool true]))) := fun W h => by
          have := HFD.out sp W h
          rw [show findN A (lst sp) = some x from (if_neg hroot).trans hf] at this
          exact this
        clear hf hroot HWX
        generalize bar x.p = xp at *
        generalize x.k = xk at *
        generalize bar x.t = xt at *
        go_enter Tryd.func21, Tryd.ntmps21
        go_wp2_with fail
        refine (HCL.out _).mono ?_
        rintro e w1 ⟨rfl, hb1⟩
        have H1 := HBN.out w1 hb1
        have d0 := H1.2.2.cell 0
        have d1 := H1.2.2.cell 1
        have d2 := H1.2.2.cell 2
        simp only [List.getElem?_cons_zero, List.getElem?_cons_succ] at d0 d1 d2
        have H1' : Hid _ := H1
        clear hb1 H1 c0 c1 c2
        go_wp2_with fail
        refine (HT.out _).mono ?_
        rintro e w9 ⟨rfl, hw9⟩; subst w9
        go_wp2_with fail
        refine (HF1.out _ H1'.out.2.1).mono ?_
        rintro e w2 ⟨rfl, hb2⟩
        have hb3 := hb2.trans ((below_new w2 (.cells #[.string xp, .int .i64 xk, .string xt] 29)).mono hb2.size)
        have H3 : Hid (Below w.heap.size w (w2.alloc (.cells #[.string xp, .int .i64 xk, .string xt] 29)) ∧ NdR (w2.alloc (.cells #[.string xp, .int .i64 xk, .string xt] 29)) v A ∧ Blk (w2.alloc (.cells #[.string xp, .int .i64 xk, .string xt] 29)) w.heap.size 29 [.string sp, .int .i64 3, .string st]) := ⟨H1'.out.1.trans (hb3.mono H1'.out.1.size), H1'.out.2.1.over hb3, H1'.out.2.2.over hb3⟩
        clear hb2 hb3 d0 d1 d2
        have d0 := H3.out.2.2.cell 0
        simp only [List.getElem?_cons_zero] at d0
        go_wp2_with fail
        go_ret
        exact ⟨by rw [HW.out]; rfl, H3.out.1⟩
      | none =>
        have HWY : Hid (wrongN A ⟨lst sp, 3, lst st⟩ = upE A ⟨lst sp, 3, lst st⟩) := by show _ = _; rw [HWX.out, hf]; rfl
        have HF1 : Hid (∀ W, NdR W v A → Calls Tryd.prog 14 #[v, .string sp] W (Tells W (.tuple #[.agg #[.string ⟨#[]⟩, .int .i64 0, .string ⟨#[]⟩], .bool false]))) := fun W h => by
          have := HFD.out sp W h
          rw [show findN A (lst sp) = none from (if_neg hroot).trans hf] at this
          exact this
        clear hf hroot HWX
        have HU2 : Hid (∀ W, NdR W v A → Calls Tryd.prog 14 #[v, .string (bar (upP (lst sp)))] W (Tells W (tellF (findN A (upP (lst sp)))))) := fun W h => by
          have := HFD.out (bar (upP (lst sp))) W h
          rw [lst_bar] at this
          exact this
        cases hu : findN A (upP (lst sp)) with
        | none =>
          have HW : Hid (wrongN A ⟨lst sp, 3, lst st⟩ = 17) := by show _ = _; rw [HWY.out]; unfold upE; rw [hu]
          rw [hu] at HU2
          have HU3 : Hid (∀ W, NdR W v A → Calls Tryd.prog 14 #[v, .string (bar (upP (lst sp)))] W (Tells W (.tuple #[.agg #[.string ⟨#[]⟩, .int .i64 0, .string ⟨#[]⟩], .bool false]))) := HU2.out
          clear hu HU2 HWY
          generalize bar (upP (lst sp)) = ub at *
          go_enter Tryd.func21, Tryd.ntmps21
          go_wp2_with fail
          refine (HCL.out _).mono ?_
          rintro e w1 ⟨rfl, hb1⟩
          have H1 := HBN.out w1 hb1
          have d0 := H1.2.2.cell 0
          have d1 := H1.2.2.cell 1
          have d2 := H1.2.2.cell 2
          simp only [List.getElem?_cons_zero, List.getElem?_cons_succ] at d0 d1 d2
          have H1' : Hid _ := H1
          clear hb1 H1 c0 c1 c2
          go_wp2_with fail
          refine (HT.out _).mono ?_
          rintro e w9 ⟨rfl, hw9⟩; subst w9
          go_wp2_with fail
          refine (HF1.out _ H1'.out.2.1).mono ?_
          rintro e w2 ⟨rfl, hb2⟩
          have hb3 := hb2.trans ((below_new w2 (.cells #[.string ⟨#[]⟩, .int .i64 0, .string ⟨#[]⟩] 29)).mono hb2.size)
          have H3 : Hid (Below w.heap.size w (w2.alloc (.cells #[.string ⟨#[]⟩, .int .i64 0, .string ⟨#[]⟩] 29)) ∧ NdR (w2.alloc (.cells #[.string ⟨#[]⟩, .int .i64 0, .string ⟨#[]⟩] 29)) v A ∧ Blk (w2.alloc (.cells #[.string ⟨#[]⟩, .int .i64 0, .string ⟨#[]⟩] 29)) w.heap.size 29 [.string sp, .int .i64 3, .string st]) := ⟨H1'.out.1.trans (hb3.mono H1'.out.1.size), H1'.out.2.1.over hb3, H1'.out.2.2.over hb3⟩
          clear hb2 hb3 d0 d1 d2
          have d0 := H3.out.2.2.cell 0
          simp only [List.getElem?_cons_zero] at d0
          go_wp2_with fail
          refine (HUP.out _).mono ?_
          rintro e w4 ⟨rfl, hb4⟩
          have H4 : Hid (Below w.heap.size w w4 ∧ NdR w4 v A) := ⟨H3.out.1.trans (hb4.mono H3.out.1.size), H3.out.2.1.over hb4⟩
          clear hb4
          go_wp2_with fail
          refine (HU3.out _ H4.out.2).mono ?_
          rintro e w5 ⟨rfl, hb5⟩
          have H5 : Hid (∀ o : Obj, Below w.heap.size w (w5.alloc o)) := fun o => (H4.out.1.trans (hb5.mono H4.out.1.size)).trans ((below_new w5 o).mono (Nat.le_trans H4.out.1.size hb5.size))
          clear hb5
          go_wp2_with fail
          go_ret
          exact ⟨by rw [HW.out]; rfl, H5.out _⟩
        | some y =>
          rw [hu] at HU2
          have HU3 : Hid (∀ W, NdR W v A → Calls Tryd.prog 14 #[v, .string (bar (upP (lst sp)))] W (Tells W (.tuple #[.agg #[.string (bar y.p), .int .i64 y.k, .string (bar y.t)], .bool true]))) := HU2.out
          by_cases hy : y.k = 2
          · have HW : Hid (wrongN A ⟨lst sp, 3, lst st⟩ = 0) := by show _ = _; rw [HWY.out]; unfold upE; rw [hu]; exact if_pos hy
            rw [hy] at HU3
            clear hu HU2 HWY hy
            generalize bar (upP (lst sp)) = ub at *
            generalize bar y.p = yp at *
            generalize bar y.t = yt at *
            go_enter Tryd.func21, Tryd.ntmps21
            go_wp2_with fail
            refine (HCL.out _).mono ?_
            rintro e w1 ⟨rfl, hb1⟩
            have H1 := HBN.out w1 hb1
            have d0 := H1.2.2.cell 0
            have d1 := H1.2.2.cell 1
            have d2 := H1.2.2.cell 2
            simp only [List.getElem?_cons_zero, List.getElem?_cons_succ] at d0 d1 d2
            have H1' : Hid _ := H1
            clear hb1 H1 c0 c1 c2
            go_wp2_with fail
            refine (HT.out _).mono ?_
            rintro e w9 ⟨rfl, hw9⟩; subst w9
            go_wp2_with fail
            refine (HF1.out _ H1'.out.2.1).mono ?_
            rintro e w2 ⟨rfl, hb2⟩
            have hb3 := hb2.trans ((below_new w2 (.cells #[.string ⟨#[]⟩, .int .i64 0, .string ⟨#[]⟩] 29)).mono hb2.size)
            have H3 : Hid (Below w.heap.size w (w2.alloc (.cells #[.string ⟨#[]⟩, .int .i64 0, .string ⟨#[]⟩] 29)) ∧ NdR (w2.alloc (.cells #[.string ⟨#[]⟩, .int .i64 0, .string ⟨#[]⟩] 29)) v A ∧ Blk (w2.alloc (.cells #[.string ⟨#[]⟩, .int .i64 0, .string ⟨#[]⟩] 29)) w.heap.size 29 [.string sp, .int .i64 3, .string st]) := ⟨H1'.out.1.trans (hb3.mono H1'.out.1.size), H1'.out.2.1.over hb3, H1'.out.2.2.over hb3⟩
            clear hb2 hb3 d0 d1 d2
            have d0 := H3.out.2.2.cell 0
            simp only [List.getElem?_cons_zero] at d0
            go_wp2_with fail
            refine (HUP.out _).mono ?_
            rintro e w4 ⟨rfl, hb4⟩
            have H4 : Hid (Below w.heap.size w w4 ∧ NdR w4 v A) := ⟨H3.out.1.trans (hb4.mono H3.out.1.size), H3.out.2.1.over hb4⟩
            clear hb4
            go_wp2_with fail
            refine (HU3.out _ H4.out.2).mono ?_
            rintro e w5 ⟨rfl, hb5⟩
            have H5 : Hid (∀ o : Obj, Below w.heap.size w (w5.alloc o)) := fun o => (H4.out.1.trans (hb5.mono H4.out.1.size)).trans ((below_new w5 o).mono (Nat.le_trans H4.out.1.size hb5.size))
            clear hb5
            go_wp2_with fail
            go_ret
            exact ⟨by rw [HW.out]; rfl, H5.out _⟩
          · have HW : Hid (wrongN A ⟨lst sp, 3, lst st⟩ = 20) := by show _ = _; rw [HWY.out]; unfold upE; rw [hu]; exact if_neg hy
            have g1 : (y.k == 2) = false := beq_eq_false_iff_ne.2 hy
            have g2 : (y.k != 2) = true := by simp [bne, g1]
            clear hu HU2 HWY hy
            generalize bar (upP (lst sp)) = ub at *
            generalize bar y.p = yp at *
            generalize bar y.t = yt at *
            generalize y.k = yk at *
            go_enter Tryd.func21, Tryd.ntmps21
            go_wp2_with fail
            refine (HCL.out _).mono ?_
            rintro e w1 ⟨rfl, hb1⟩
            have H1 := HBN.out w1 hb1
            have d0 := H1.2.2.cell 0
            have d1 := H1.2.2.cell 1
            have d2 := H1.2.2.cell 2
            simp only [List.getElem?_cons_zero, List.getElem?_cons_succ] at d0 d1 d2
            have H1' : Hid _ := H1
            clear hb1 H1 c0 c1 c2
            go_wp2_with fail
            refine (HT.out _).mono ?_
            rintro e w9 ⟨rfl, hw9⟩; subst w9
            go_wp2_with fail
            refine (HF1.out _ H1'.out.2.1).mono ?_
            rintro e w2 ⟨rfl, hb2⟩
            have hb3 := hb2.trans ((below_new w2 (.cells #[.string ⟨#[]⟩, .int .i64 0, .string ⟨#[]⟩] 29)).mono hb2.size)
            have H3 : Hid (Below w.heap.size w (w2.alloc (.cells #[.string ⟨#[]⟩, .int .i64 0, .string ⟨#[]⟩] 29)) ∧ NdR (w2.alloc (.cells #[.string ⟨#[]⟩, .int .i64 0, .string ⟨#[]⟩] 29)) v A ∧ Blk (w2.alloc (.cells #[.string ⟨#[]⟩, .int .i64 0, .string ⟨#[]⟩] 29)) w.heap.size 29 [.string sp, .int .i64 3, .string st]) := ⟨H1'.out.1.trans (hb3.mono H1'.out.1.size), H1'.out.2.1.over hb3, H1'.out.2.2.over hb3⟩
            clear hb2 hb3 d0 d1 d2
            have d0 := H3.out.2.2.cell 0
            simp only [List.getElem?_cons_zero] at d0
            go_wp2_with fail
            refine (HUP.out _).mono ?_
            rintro e w4 ⟨rfl, hb4⟩
            have H4 : Hid (Below w.heap.size w w4 ∧ NdR w4 v A) := ⟨H3.out.1.trans (hb4.mono H3.out.1.size), H3.out.2.1.over hb4⟩
            clear hb4
            go_wp2_with fail
            refine (HU3.out _ H4.out.2).mono ?_
            rintro e w5 ⟨rfl, hb5⟩
            have H5 : Hid (∀ o : Obj, Below w.heap.size w (w5.alloc o)) := fun o => (H4.out.1.trans (hb5.mono H4.out.1.size)).trans ((below_new w5 o).mono (Nat.le_trans H4.out.1.size hb5.size))
            clear hb5
            go_wp2_with fail
            go_ret
            exact ⟨by rw [HW.out]; rfl, H5.out _⟩
  · by_cases ht : lst st = []
    case neg =>
      have q4 : (st.toList == []) = false := by rw [toList_lst]; exact beq_eq_false_iff_ne.2 ht
      have q5 : st.toList.isEmpty = false := by rw [toList_lst]; cases hq : lst st with
        | nil => exact absurd hq ht
        | cons _ _ => rfl
      have HW : Hid (wrongN A ⟨lst sp, 1, lst st⟩ = 1) := wrong_one (.inr (.inr (by rw [kind_one]; exact decide_eq_false ht)))
      clear ht hroot hcl
      go_enter Tryd.func21, Tryd.ntmps21
      go_wp2_with fail
      refine (HCL.out _).mono ?_
      rintro e w1 ⟨rfl, hb1⟩
      have H1 := HBN.out w1 hb1
      have d0 := H1.2.2.cell 0
      have d1 := H1.2.2.cell 1
      have d2 := H1.2.2.cell 2
      simp only [List.getElem?_cons_zero, List.getElem?_cons_succ] at d0 d1 d2
      have H1' : Hid _ := H1
      clear hb1 H1 c0 c1 c2
      go_wp2_with fail
      go_ret
      exact ⟨by rw [HW.out]; rfl, H1'.out.1⟩
    have q4 : (st.toList == []) = true := by rw [toList_lst, ht]; rfl
    have q5 : st.toList.isEmpty = true := by rw [toList_lst, ht]; rfl
    have hkd : kindOk ⟨lst sp, 1, lst st⟩ = true := by rw [kind_one]; exact decide_eq_true ht
    clear ht
    have HWX : Hid (wrongN A ⟨lst sp, 1, lst st⟩ = if (findL A (lst sp)).isSome = true then 9 else upE A ⟨lst sp, 1, lst st⟩) := wrong_two hcl hroot hkd
    clear hkd hcl
    cases hf : findL A (lst sp) with
    | some x =>
      have HW : Hid (wrongN A ⟨lst sp, 1, lst st⟩ = 9) := by show _ = _; rw [HWX.out, hf]; rfl
      have HF1 : Hid (∀ W, NdR W v A → Calls Tryd.prog 14 #[v, .string sp] W (Tells W (.tuple #[.agg #[.string (bar x.p), .int .i64 x.k, .string (bar x.t)], .bool true]))) := fun W h => by
        have := HFD.out sp W h
        rw [show findN A (lst sp) = some x from (if_neg hroot).trans hf] at this
        exact this
      clear hf hroot HWX
      generalize bar x.p = xp at *
      generalize x.k = xk at *
      generalize bar x.t = xt at *
      go_enter Tryd.func21, Tryd.ntmps21
      go_wp2_with fail
      refine (HCL.out _).mono ?_
      rintro e w1 ⟨rfl, hb1⟩
      have H1 := HBN.out w1 hb1
      have d0 := H1.2.2.cell 0
      have d1 := H1.2.2.cell 1
      have d2 := H1.2.2.cell 2
      simp only [List.getElem?_cons_zero, List.getElem?_cons_succ] at d0 d1 d2
      have H1' : Hid _ := H1
      clear hb1 H1 c0 c1 c2
      go_wp2_with fail
      refine (HF1.out _ H1'.out.2.1).mono ?_
      rintro e w2 ⟨rfl, hb2⟩
      have hb3 := hb2.trans ((below_new w2 (.cells #[.string xp, .int .i64 xk, .string xt] 29)).mono hb2.size)
      have H3 : Hid (Below w.heap.size w (w2.alloc (.cells #[.string xp, .int .i64 xk, .string xt] 29)) ∧ NdR (w2.alloc (.cells #[.string xp, .int .i64 xk, .string xt] 29)) v A ∧ Blk (w2.alloc (.cells #[.string xp, .int .i64 xk, .string xt] 29)) w.heap.size 29 [.string sp, .int .i64 1, .string st]) := ⟨H1'.out.1.trans (hb3.mono H1'.out.1.size), H1'.out.2.1.over hb3, H1'.out.2.2.over hb3⟩
      clear hb2 hb3 d0 d1 d2
      have d0 := H3.out.2.2.cell 0
      simp only [List.getElem?_cons_zero] at d0
      go_wp2_with fail
      go_ret
      exact ⟨by rw [HW.out]; rfl, H3.out.1⟩
    | none =>
      have HWY : Hid (wrongN A ⟨lst sp, 1, lst st⟩ = upE A ⟨lst sp, 1, lst st⟩) := by show _ = _; rw [HWX.out, hf]; rfl
      have HF1 : Hid (∀ W, NdR W v A → Calls Tryd.prog 14 #[v, .string sp] W (Tells W (.tuple #[.agg #[.string ⟨#[]⟩, .int .i64 0, .string ⟨#[]⟩], .bool false]))) := fun W h => by
        have := HFD.out sp W h
        rw [show findN A (lst sp) = none from (if_neg hroot).trans hf] at this
        exact this
      clear hf hroot HWX
      have HU2 : Hid (∀ W, NdR W v A → Calls Tryd.prog 14 #[v, .string (bar (upP (lst sp)))] W (Tells W (tellF (findN A (upP (lst sp)))))) := fun W h => by
        have := HFD.out (bar (upP (lst sp))) W h
        rw [lst_bar] at this
        exact this
      cases hu : findN A (upP (lst sp)) with
      | none =>
        have HW : Hid (wrongN A ⟨lst sp, 1, lst st⟩ = 17) := by show _ = _; rw [HWY.out]; unfold upE; rw [hu]
        rw [hu] at HU2
        have HU3 : Hid (∀ W, NdR W v A → Calls Tryd.prog 14 #[v, .string (bar (upP (lst sp)))] W (Tells W (.tuple #[.agg #[.string ⟨#[]⟩, .int .i64 0, .string ⟨#[]⟩], .bool false]))) := HU2.out
        clear hu HU2 HWY
        generalize bar (upP (lst sp)) = ub at *
        go_enter Tryd.func21, Tryd.ntmps21
        go_wp2_with fail
        refine (HCL.out _).mono ?_
        rintro e w1 ⟨rfl, hb1⟩
        have H1 := HBN.out w1 hb1
        have d0 := H1.2.2.cell 0
        have d1 := H1.2.2.cell 1
        have d2 := H1.2.2.cell 2
        simp only [List.getElem?_cons_zero, List.getElem?_cons_succ] at d0 d1 d2
        have H1' : Hid _ := H1
        clear hb1 H1 c0 c1 c2
        go_wp2_with fail
        refine (HF1.out _ H1'.out.2.1).mono ?_
        rintro e w2 ⟨rfl, hb2⟩
        have hb3 := hb2.trans ((below_new w2 (.cells #[.string ⟨#[]⟩, .int .i64 0, .string ⟨#[]⟩] 29)).mono hb2.size)
        have H3 : Hid (Below w.heap.size w (w2.alloc (.cells #[.string ⟨#[]⟩, .int .i64 0, .string ⟨#[]⟩] 29)) ∧ NdR (w2.alloc (.cells #[.string ⟨#[]⟩, .int .i64 0, .string ⟨#[]⟩] 29)) v A ∧ Blk (w2.alloc (.cells #[.string ⟨#[]⟩, .int .i64 0, .string ⟨#[]⟩] 29)) w.heap.size 29 [.string sp, .int .i64 1, .string st]) := ⟨H1'.out.1.trans (hb3.mono H1'.out.1.size), H1'.out.2.1.over hb3, H1'.out.2.2.over hb3⟩
        clear hb2 hb3 d0 d1 d2
        have d0 := H3.out.2.2.cell 0
        simp only [List.getElem?_cons_zero] at d0
        go_wp2_with fail
        refine (HUP.out _).mono ?_
        rintro e w4 ⟨rfl, hb4⟩
        have H4 : Hid (Below w.heap.size w w4 ∧ NdR w4 v A) := ⟨H3.out.1.trans (hb4.mono H3.out.1.size), H3.out.2.1.over hb4⟩
        clear hb4
        go_wp2_with fail
        refine (HU3.out _ H4.out.2).mono ?_
        rintro e w5 ⟨rfl, hb5⟩
        have H5 : Hid (∀ o : Obj, Below w.heap.size w (w5.alloc o)) := fun o => (H4.out.1.trans (hb5.mono H4.out.1.size)).trans ((below_new w5 o).mono (Nat.le_trans H4.out.1.size hb5.size))
        clear hb5
        go_wp2_with fail
        go_ret
        exact ⟨by rw [HW.out]; rfl, H5.out _⟩
      | some y =>
        rw [hu] at HU2
        have HU3 : Hid (∀ W, NdR W v A → Calls Tryd.prog 14 #[v, .string (bar (upP (lst sp)))] W (Tells W (.tuple #[.agg #[.string (bar y.p), .int .i64 y.k, .string (bar y.t)], .bool true]))) := HU2.out
        by_cases hy : y.k = 2
        · have HW : Hid (wrongN A ⟨lst sp, 1, lst st⟩ = 0) := by show _ = _; rw [HWY.out]; unfold upE; rw [hu]; exact if_pos hy
          rw [hy] at HU3
          clear hu HU2 HWY hy
          generalize bar (upP (lst sp)) = ub at *
          generalize bar y.p = yp at *
          generalize bar y.t = yt at *
          go_enter Tryd.func21, Tryd.ntmps21
          go_wp2_with fail
          refine (HCL.out _).mono ?_
          rintro e w1 ⟨rfl, hb1⟩
          have H1 := HBN.out w1 hb1
          have d0 := H1.2.2.cell 0
          have d1 := H1.2.2.cell 1
          have d2 := H1.2.2.cell 2
          simp only [List.getElem?_cons_zero, List.getElem?_cons_succ] at d0 d1 d2
          have H1' : Hid _ := H1
          clear hb1 H1 c0 c1 c2
          go_wp2_with fail
          refine (HF1.out _ H1'.out.2.1).mono ?_
          rintro e w2 ⟨rfl, hb2⟩
          have hb3 := hb2.trans ((below_new w2 (.cells #[.string ⟨#[]⟩, .int .i64 0, .string ⟨#[]⟩] 29)).mono hb2.size)
          have H3 : Hid (Below w.heap.size w (w2.alloc (.cells #[.string ⟨#[]⟩, .int .i64 0, .string ⟨#[]⟩] 29)) ∧ NdR (w2.alloc (.cells #[.string ⟨#[]⟩, .int .i64 0, .string ⟨#[]⟩] 29)) v A ∧ Blk (w2.alloc (.cells #[.string ⟨#[]⟩, .int .i64 0, .string ⟨#[]⟩] 29)) w.heap.size 29 [.string sp, .int .i64 1, .string st]) := ⟨H1'.out.1.trans (hb3.mono H1'.out.1.size), H1'.out.2.1.over hb3, H1'.out.2.2.over hb3⟩
          clear hb2 hb3 d0 d1 d2
          have d0 := H3.out.2.2.cell 0
          simp only [List.getElem?_cons_zero] at d0
          go_wp2_with fail
          refine (HUP.out _).mono ?_
          rintro e w4 ⟨rfl, hb4⟩
          have H4 : Hid (Below w.heap.size w w4 ∧ NdR w4 v A) := ⟨H3.out.1.trans (hb4.mono H3.out.1.size), H3.out.2.1.over hb4⟩
          clear hb4
          go_wp2_with fail
          refine (HU3.out _ H4.out.2).mono ?_
          rintro e w5 ⟨rfl, hb5⟩
          have H5 : Hid (∀ o : Obj, Below w.heap.size w (w5.alloc o)) := fun o => (H4.out.1.trans (hb5.mono H4.out.1.size)).trans ((below_new w5 o).mono (Nat.le_trans H4.out.1.size hb5.size))
          clear hb5
          go_wp2_with fail
          go_ret
          exact ⟨by rw [HW.out]; rfl, H5.out _⟩
        · have HW : Hid (wrongN A ⟨lst sp, 1, lst st⟩ = 20) := by show _ = _; rw [HWY.out]; unfold upE; rw [hu]; exact if_neg hy
          have g1 : (y.k == 2) = false := beq_eq_false_iff_ne.2 hy
          have g2 : (y.k != 2) = true := by simp [bne, g1]
          clear hu HU2 HWY hy
          generalize bar (upP (lst sp)) = ub at *
          generalize bar y.p = yp at *
          generalize bar y.t = yt at *
          generalize y.k = yk at *
          go_enter Tryd.func21, Tryd.ntmps21
          go_wp2_with fail
          refine (HCL.out _).mono ?_
          rintro e w1 ⟨rfl, hb1⟩
          have H1 := HBN.out w1 hb1
          have d0 := H1.2.2.cell 0
          have d1 := H1.2.2.cell 1
          have d2 := H1.2.2.cell 2
          simp only [List.getElem?_cons_zero, List.getElem?_cons_succ] at d0 d1 d2
          have H1' : Hid _ := H1
          clear hb1 H1 c0 c1 c2
          go_wp2_with fail
          refine (HF1.out _ H1'.out.2.1).mono ?_
          rintro e w2 ⟨rfl, hb2⟩
          have hb3 := hb2.trans ((below_new w2 (.cells #[.string ⟨#[]⟩, .int .i64 0, .string ⟨#[]⟩] 29)).mono hb2.size)
          have H3 : Hid (Below w.heap.size w (w2.alloc (.cells #[.string ⟨#[]⟩, .int .i64 0, .string ⟨#[]⟩] 29)) ∧ NdR (w2.alloc (.cells #[.string ⟨#[]⟩, .int .i64 0, .string ⟨#[]⟩] 29)) v A ∧ Blk (w2.alloc (.cells #[.string ⟨#[]⟩, .int .i64 0, .string ⟨#[]⟩] 29)) w.heap.size 29 [.string sp, .int .i64 1, .string st]) := ⟨H1'.out.1.trans (hb3.mono H1'.out.1.size), H1'.out.2.1.over hb3, H1'.out.2.2.over hb3⟩
          clear hb2 hb3 d0 d1 d2
          have d0 := H3.out.2.2.cell 0
          simp only [List.getElem?_cons_zero] at d0
          go_wp2_with fail
          refine (HUP.out _).mono ?_
          rintro e w4 ⟨rfl, hb4⟩
          have H4 : Hid (Below w.heap.size w w4 ∧ NdR w4 v A) := ⟨H3.out.1.trans (hb4.mono H3.out.1.size), H3.out.2.1.over hb4⟩
          clear hb4
          go_wp2_with fail
          refine (HU3.out _ H4.out.2).mono ?_
          rintro e w5 ⟨rfl, hb5⟩
          have H5 : Hid (∀ o : Obj, Below w.heap.size w (w5.alloc o)) := fun o => (H4.out.1.trans (hb5.mono H4.out.1.size)).trans ((below_new w5 o).mono (Nat.le_trans H4.out.1.size hb5.size))
          clear hb5
          go_wp2_with fail
          go_ret
          exact ⟨by rw [HW.out]; rfl, H5.out _⟩
  · by_cases ht : lst st = []
    case neg =>
      have q4 : (st.toList == []) = false := by rw [toList_lst]; exact beq_eq_false_iff_ne.2 ht
      have q5 : st.toList.isEmpty = false := by rw [toList_lst]; cases hq : lst st with
        | nil => exact absurd hq ht
        | cons _ _ => rfl
      have HW : Hid (wrongN A ⟨lst sp, 2, lst st⟩ = 1) := wrong_one (.inr (.inr (by rw [kind_two]; exact decide_eq_false ht)))
      clear ht hroot hcl
      go_enter Tryd.func21, Tryd.ntmps21
      go_wp2_with fail
      refine (HCL.out _).mono ?_
      rintro e w1 ⟨rfl, hb1⟩
      have H1 := HBN.out w1 hb1
      have d0 := H1.2.2.cell 0
      have d1 := H1.2.2.cell 1
      have d2 := H1.2.2.cell 2
      simp only [List.getElem?_cons_zero, List.getElem?_cons_succ] at d0 d1 d2
      have H1' : Hid _ := H1
      clear hb1 H1 c0 c1 c2
      go_wp2_with fail
      go_ret
      exact ⟨by rw [HW.out]; rfl, H1'.out.1⟩
    have q4 : (st.toList == []) = true := by rw [toList_lst, ht]; rfl
    have q5 : st.toList.isEmpty = true := by rw [toList_lst, ht]; rfl
    have hkd : kindOk ⟨lst sp, 2, lst st⟩ = true := by rw [kind_two]; exact decide_eq_true ht
    clear ht
    have HWX : Hid (wrongN A ⟨lst sp, 2, lst st⟩ = if (findL A (lst sp)).isSome = true then 9 else upE A ⟨lst sp, 2, lst st⟩) := wrong_two hcl hroot hkd
    clear hkd hcl
    cases hf : findL A (lst sp) with
    | some x =>
      have HW : Hid (wrongN A ⟨lst sp, 2, lst st⟩ = 9) := by show _ = _; rw [HWX.out, hf]; rfl
      have HF1 : Hid (∀ W, NdR W v A → Calls Tryd.prog 14 #[v, .string sp] W (Tells W (.tuple #[.agg #[.string (bar x.p), .int .i64 x.k, .string (bar x.t)], .bool true]))) := fun W h => by
        have := HFD.out sp W h
        rw [show findN A (lst sp) = some x from (if_neg hroot).trans hf] at this
        exact this
      clear hf hroot HWX
      generalize bar x.p = xp at *
      generalize x.k = xk at *
      generalize bar x.t = xt at *
      go_enter Tryd.func21, Tryd.ntmps21
      go_wp2_with fail
      refine (HCL.out _).mono ?_
      rintro e w1 ⟨rfl, hb1⟩
      have H1 := HBN.out w1 hb1
      have d0 := H1.2.2.cell 0
      have d1 := H1.2.2.cell 1
      have d2 := H1.2.2.cell 2
      simp only [List.getElem?_cons_zero, List.getElem?_cons_succ] at d0 d1 d2
      have H1' : Hid _ := H1
      clear hb1 H1 c0 c1 c2
      go_wp2_with fail
      refine (HF1.out _ H1'.out.2.1).mono ?_
      rintro e w2 ⟨rfl, hb2⟩
      have hb3 := hb2.trans ((below_new w2 (.cells #[.string xp, .int .i64 xk, .string xt] 29)).mono hb2.size)
      have H3 : Hid (Below w.heap.size w (w2.alloc (.cells #[.string xp, .int .i64 xk, .string xt] 29)) ∧ NdR (w2.alloc (.cells #[.string xp, .int .i64 xk, .string xt] 29)) v A ∧ Blk (w2.alloc (.cells #[.string xp, .int .i64 xk, .string xt] 29)) w.heap.size 29 [.string sp, .int .i64 2, .string st]) := ⟨H1'.out.1.trans (hb3.mono H1'.out.1.size), H1'.out.2.1.over hb3, H1'.out.2.2.over hb3⟩
      clear hb2 hb3 d0 d1 d2
      have d0 := H3.out.2.2.cell 0
      simp only [List.getElem?_cons_zero] at d0
      go_wp2_with fail
      go_ret
      exact ⟨by rw [HW.out]; rfl, H3.out.1⟩
    | none =>
      have HWY : Hid (wrongN A ⟨lst sp, 2, lst st⟩ = upE A ⟨lst sp, 2, lst st⟩) := by show _ = _; rw [HWX.out, hf]; rfl
      have HF1 : Hid (∀ W, NdR W v A → Calls Tryd.prog 14 #[v, .string sp] W (Tells W (.tuple #[.agg #[.string ⟨#[]⟩, .int .i64 0, .string ⟨#[]⟩], .bool false]))) := fun W h => by
        have := HFD.out sp W h
        rw [show findN A (lst sp) = none from (if_neg hroot).trans hf] at this
        exact this
      clear hf hroot HWX
      have HU2 : Hid (∀ W, NdR W v A → Calls Tryd.prog 14 #[v, .string (bar (upP (lst sp)))] W (Tells W (tellF (findN A (upP (lst sp)))))) := fun W h => by
        have := HFD.out (bar (upP (lst sp))) W h
        rw [lst_bar] at this
        exact this
      cases hu : findN A (upP (lst sp)) with
      | none =>
        have HW : Hid (wrongN A ⟨lst sp, 2, lst st⟩ = 17) := by show _ = _; rw [HWY.out]; unfold upE; rw [hu]
        rw [hu] at HU2
        have HU3 : Hid (∀ W, NdR W v A → Calls Tryd.prog 14 #[v, .string (bar (upP (lst sp)))] W (Tells W (.tuple #[.agg #[.string ⟨#[]⟩, .int .i64 0, .string ⟨#[]⟩], .bool false]))) := HU2.out
        clear hu HU2 HWY
        generalize bar (upP (lst sp)) = ub at *
        go_enter Tryd.func21, Tryd.ntmps21
        go_wp2_with fail
        refine (HCL.out _).mono ?_
        rintro e w1 ⟨rfl, hb1⟩
        have H1 := HBN.out w1 hb1
        have d0 := H1.2.2.cell 0
        have d1 := H1.2.2.cell 1
        have d2 := H1.2.2.cell 2
        simp only [List.getElem?_cons_zero, List.getElem?_cons_succ] at d0 d1 d2
        have H1' : Hid _ := H1
        clear hb1 H1 c0 c1 c2
        go_wp2_with fail
        refine (HF1.out _ H1'.out.2.1).mono ?_
        rintro e w2 ⟨rfl, hb2⟩
        have hb3 := hb2.trans ((below_new w2 (.cells #[.string ⟨#[]⟩, .int .i64 0, .string ⟨#[]⟩] 29)).mono hb2.size)
        have H3 : Hid (Below w.heap.size w (w2.alloc (.cells #[.string ⟨#[]⟩, .int .i64 0, .string ⟨#[]⟩] 29)) ∧ NdR (w2.alloc (.cells #[.string ⟨#[]⟩, .int .i64 0, .string ⟨#[]⟩] 29)) v A ∧ Blk (w2.alloc (.cells #[.string ⟨#[]⟩, .int .i64 0, .string ⟨#[]⟩] 29)) w.heap.size 29 [.string sp, .int .i64 2, .string st]) := ⟨H1'.out.1.trans (hb3.mono H1'.out.1.size), H1'.out.2.1.over hb3, H1'.out.2.2.over hb3⟩
        clear hb2 hb3 d0 d1 d2
        have d0 := H3.out.2.2.cell 0
        simp only [List.getElem?_cons_zero] at d0
        go_wp2_with fail
        refine (HUP.out _).mono ?_
        rintro e w4 ⟨rfl, hb4⟩
        have H4 : Hid (Below w.heap.size w w4 ∧ NdR w4 v A) := ⟨H3.out.1.trans (hb4.mono H3.out.1.size), H3.out.2.1.over hb4⟩
        clear hb4
        go_wp2_with fail
        refine (HU3.out _ H4.out.2).mono ?_
        rintro e w5 ⟨rfl, hb5⟩
        have H5 : Hid (∀ o : Obj, Below w.heap.size w (w5.alloc o)) := fun o => (H4.out.1.trans (hb5.mono H4.out.1.size)).trans ((below_new w5 o).mono (Nat.le_trans H4.out.1.size hb5.size))
        clear hb5
        go_wp2_with fail
        go_ret
        exact ⟨by rw [HW.out]; rfl, H5.out _⟩
      | some y =>
        rw [hu] at HU2
        have HU3 : Hid (∀ W, NdR W v A → Calls Tryd.prog 14 #[v, .string (bar (upP (lst sp)))] W (Tells W (.tuple #[.agg #[.string (bar y.p), .int .i64 y.k, .string (bar y.t)], .bool true]))) := HU2.out
        by_cases hy : y.k = 2
        · have HW : Hid (wrongN A ⟨lst sp, 2, lst st⟩ = 0) := by show _ = _; rw [HWY.out]; unfold upE; rw [hu]; exact if_pos hy
          rw [hy] at HU3
          clear hu HU2 HWY hy
          generalize bar (upP (lst sp)) = ub at *
          generalize bar y.p = yp at *
          generalize bar y.t = yt at *
          go_enter Tryd.func21, Tryd.ntmps21
          go_wp2_with fail
          refine (HCL.out _).mono ?_
          rintro e w1 ⟨rfl, hb1⟩
          have H1 := HBN.out w1 hb1
          have d0 := H1.2.2.cell 0
          have d1 := H1.2.2.cell 1
          have d2 := H1.2.2.cell 2
          simp only [List.getElem?_cons_zero, List.getElem?_cons_succ] at d0 d1 d2
          have H1' : Hid _ := H1
          clear hb1 H1 c0 c1 c2
          go_wp2_with fail
          refine (HF1.out _ H1'.out.2.1).mono ?_
          rintro e w2 ⟨rfl, hb2⟩
          have hb3 := hb2.trans ((below_new w2 (.cells #[.string ⟨#[]⟩, .int .i64 0, .string ⟨#[]⟩] 29)).mono hb2.size)
          have H3 : Hid (Below w.heap.size w (w2.alloc (.cells #[.string ⟨#[]⟩, .int .i64 0, .string ⟨#[]⟩] 29)) ∧ NdR (w2.alloc (.cells #[.string ⟨#[]⟩, .int .i64 0, .string ⟨#[]⟩] 29)) v A ∧ Blk (w2.alloc (.cells #[.string ⟨#[]⟩, .int .i64 0, .string ⟨#[]⟩] 29)) w.heap.size 29 [.string sp, .int .i64 2, .string st]) := ⟨H1'.out.1.trans (hb3.mono H1'.out.1.size), H1'.out.2.1.over hb3, H1'.out.2.2.over hb3⟩
          clear hb2 hb3 d0 d1 d2
          have d0 := H3.out.2.2.cell 0
          simp only [List.getElem?_cons_zero] at d0
          go_wp2_with fail
          refine (HUP.out _).mono ?_
          rintro e w4 ⟨rfl, hb4⟩
          have H4 : Hid (Below w.heap.size w w4 ∧ NdR w4 v A) := ⟨H3.out.1.trans (hb4.mono H3.out.1.size), H3.out.2.1.over hb4⟩
          clear hb4
          go_wp2_with fail
          refine (HU3.out _ H4.out.2).mono ?_
          rintro e w5 ⟨rfl, hb5⟩
          have H5 : Hid (∀ o : Obj, Below w.heap.size w (w5.alloc o)) := fun o => (H4.out.1.trans (hb5.mono H4.out.1.size)).trans ((below_new w5 o).mono (Nat.le_trans H4.out.1.size hb5.size))
          clear hb5
          go_wp2_with fail
          go_ret
          exact ⟨by rw [HW.out]; rfl, H5.out _⟩
        · have HW : Hid (wrongN A ⟨lst sp, 2, lst st⟩ = 20) := by show _ = _; rw [HWY.out]; unfold upE; rw [hu]; exact if_neg hy
          have g1 : (y.k == 2) = false := beq_eq_false_iff_ne.2 hy
          have g2 : (y.k != 2) = true := by simp [bne, g1]
          clear hu HU2 HWY hy
          generalize bar (upP (lst sp)) = ub at *
          generalize bar y.p = yp at *
          generalize bar y.t = yt at *
          generalize y.k = yk at *
          go_enter Tryd.func21, Tryd.ntmps21
          go_wp2_with fail
          refine (HCL.out _).mono ?_
          rintro e w1 ⟨rfl, hb1⟩
          have H1 := HBN.out w1 hb1
          have d0 := H1.2.2.cell 0
          have d1 := H1.2.2.cell 1
          have d2 := H1.2.2.cell 2
          simp only [List.getElem?_cons_zero, List.getElem?_cons_succ] at d0 d1 d2
          have H1' : Hid _ := H1
          clear hb1 H1 c0 c1 c2
          go_wp2_with fail
          refine (HF1.out _ H1'.out.2.1).mono ?_
          rintro e w2 ⟨rfl, hb2⟩
          have hb3 := hb2.trans ((below_new w2 (.cells #[.string ⟨#[]⟩, .int .i64 0, .string ⟨#[]⟩] 29)).mono hb2.size)
          have H3 : Hid (Below w.heap.size w (w2.alloc (.cells #[.string ⟨#[]⟩, .int .i64 0, .string ⟨#[]⟩] 29)) ∧ NdR (w2.alloc (.cells #[.string ⟨#[]⟩, .int .i64 0, .string ⟨#[]⟩] 29)) v A ∧ Blk (w2.alloc (.cells #[.string ⟨#[]⟩, .int .i64 0, .string ⟨#[]⟩] 29)) w.heap.size 29 [.string sp, .int .i64 2, .string st]) := ⟨H1'.out.1.trans (hb3.mono H1'.out.1.size), H1'.out.2.1.over hb3, H1'.out.2.2.over hb3⟩
          clear hb2 hb3 d0 d1 d2
          have d0 := H3.out.2.2.cell 0
          simp only [List.getElem?_cons_zero] at d0
          go_wp2_with fail
          refine (HUP.out _).mono ?_
          rintro e w4 ⟨rfl, hb4⟩
          have H4 : Hid (Below w.heap.size w w4 ∧ NdR w4 v A) := ⟨H3.out.1.trans (hb4.mono H3.out.1.size), H3.out.2.1.over hb4⟩
          clear hb4
          go_wp2_with fail
          refine (HU3.out _ H4.out.2).mono ?_
          rintro e w5 ⟨rfl, hb5⟩
          have H5 : Hid (∀ o : Obj, Below w.heap.size w (w5.alloc o)) := fun o => (H4.out.1.trans (hb5.mono H4.out.1.size)).trans ((below_new w5 o).mono (Nat.le_trans H4.out.1.size hb5.size))
          clear hb5
          go_wp2_with fail
          go_ret
          exact ⟨by rw [HW.out]; rfl, H5.out _⟩

end Go.Proofs.YtilemgpopjlchaaDoor
