/-
  What is wrong with a node behind others, as the program tells it.
-/
import Derived.Test.YtilemgpopjlchaaDoorTSm
import Derived.Test.YtilemgpopjlchaaDoorMapN
namespace Go.Proofs.YtilemgpopjlchaaDoor
open Go.RowKit Go.Shelf

theorem findL_root (A : List Nd) (u : Nm) : findL (rootN :: A) u = findN A u := by
  unfold findN findL
  by_cases h : u = [47]
  · rw [if_pos h, List.find?_cons_of_pos (by rw [h]; rfl)]
  · rw [if_neg h, List.find?_cons_of_neg (by
      simp only [beq_iff_eq]
      exact fun e => h e.symm)]

set_option maxHeartbeats 16000000 in
theorem tfault_any (B : Nat) (A : List Nd) (sp st : ByteArray) (k : Int) (w : World) (h : MpN w B (rootN :: A)) :
    Calls Tryd.prog 36 #[.map (some B), .agg #[.string sp, .int .i64 k, .string st]] w (Tells w (.int .i64 (wrongN A ⟨lst sp, k, lst st⟩))) := by
  have HB0 : Hid (Below w.heap.size w (w.alloc (.cells #[.string sp, .int .i64 k, .string st] 29))) := below_new w _
  have H0 : Hid (Below w.heap.size w (w.alloc (.cells #[.string sp, .int .i64 k, .string st] 29)) ∧ MpN (w.alloc (.cells #[.string sp, .int .i64 k, .string st] 29)) B (rootN :: A) ∧ Blk (w.alloc (.cells #[.string sp, .int .i64 k, .string st] 29)) w.heap.size 29 [.string sp, .int .i64 k, .string st]) := ⟨HB0.out, h.over HB0.out, heap_alloc_new w _⟩
  clear h HB0
  obtain ⟨d0, d1, d2⟩ := nd_cells w (.string sp) (.int .i64 k) (.string st)
  have HCL0 : Hid (∀ W, Calls Tryd.prog 53 #[.string sp] W (Tells W (.bool (cleanOk (lst sp))))) := fun W => tclean_ok sp W
  have HKD0 : Hid (∀ W, Calls Tryd.prog 54 #[.agg #[.string sp, .int .i64 k, .string st]] W (Tells W (.bool (kindOk ⟨lst sp, k, lst st⟩)))) := fun W => tkind_any sp st k W
  cases hcl : cleanOk (lst sp) with
  | false =>
    have HW : Hid (wrongN A ⟨lst sp, k, lst st⟩ = 1) := wrong_one (.inl hcl)
    have HCL : Hid (∀ W, Calls Tryd.prog 53 #[.string sp] W (Tells W (.bool false))) := by have := HCL0.out; rw [hcl] at this; exact this
    clear hcl
    go_enter Tryd.func36, Tryd.ntmps36
    go_wp2_with fail
    refine (HCL.out _).mono ?_
    rintro e w1 ⟨rfl, hb1⟩
    clear d0 d1 d2
    have H1 : Hid (Below w.heap.size w w1 ∧ MpN w1 B (rootN :: A) ∧ Blk w1 w.heap.size 29 [.string sp, .int .i64 k, .string st]) := ⟨H0.out.1.trans (hb1.mono H0.out.1.size), H0.out.2.1.over hb1, H0.out.2.2.over hb1⟩
    clear hb1
    have d0 := H1.out.2.2.cell 0
    have d1 := H1.out.2.2.cell 1
    have d2 := H1.out.2.2.cell 2
    simp only [List.getElem?_cons_zero, List.getElem?_cons_succ] at d0 d1 d2
    go_wp2_with fail
    go_ret
    exact ⟨by rw [HW.out]; rfl, H1.out.1⟩
  | true =>
    have HCL : Hid (∀ W, Calls Tryd.prog 53 #[.string sp] W (Tells W (.bool true))) := by have := HCL0.out; rw [hcl] at this; exact this
    by_cases hroot : lst sp = [47]
    · have HW : Hid (wrongN A ⟨lst sp, k, lst st⟩ = 1) := wrong_one (.inr (.inl hroot))
      have q1 : (sp.toList == [47]) = true := by rw [toList_lst, hroot]; rfl
      clear hcl hroot
      go_enter Tryd.func36, Tryd.ntmps36
      go_wp2_with fail
      refine (HCL.out _).mono ?_
      rintro e w1 ⟨rfl, hb1⟩
      clear d0 d1 d2
      have H1 : Hid (Below w.heap.size w w1 ∧ MpN w1 B (rootN :: A) ∧ Blk w1 w.heap.size 29 [.string sp, .int .i64 k, .string st]) := ⟨H0.out.1.trans (hb1.mono H0.out.1.size), H0.out.2.1.over hb1, H0.out.2.2.over hb1⟩
      clear hb1
      have d0 := H1.out.2.2.cell 0
      have d1 := H1.out.2.2.cell 1
      have d2 := H1.out.2.2.cell 2
      simp only [List.getElem?_cons_zero, List.getElem?_cons_succ] at d0 d1 d2
      go_wp2_with fail
      go_ret
      exact ⟨by rw [HW.out]; rfl, H1.out.1⟩
    have q1 : (sp.toList == [47]) = false := by rw [toList_lst]; exact beq_eq_false_iff_ne.2 hroot
    cases hkd : kindOk ⟨lst sp, k, lst st⟩ with
    | false =>
      have HW : Hid (wrongN A ⟨lst sp, k, lst st⟩ = 1) := wrong_one (.inr (.inr hkd))
      have HKD : Hid (∀ W, Calls Tryd.prog 54 #[.agg #[.string sp, .int .i64 k, .string st]] W (Tells W (.bool false))) := by have := HKD0.out; rw [hkd] at this; exact this
      clear hcl hroot hkd
      go_enter Tryd.func36, Tryd.ntmps36
      go_wp2_with fail
      refine (HCL.out _).mono ?_
      rintro e w1 ⟨rfl, hb1⟩
      clear d0 d1 d2
      have H1 : Hid (Below w.heap.size w w1 ∧ MpN w1 B (rootN :: A) ∧ Blk w1 w.heap.size 29 [.string sp, .int .i64 k, .string st]) := ⟨H0.out.1.trans (hb1.mono H0.out.1.size), H0.out.2.1.over hb1, H0.out.2.2.over hb1⟩
      clear hb1
      have d0 := H1.out.2.2.cell 0
      have d1 := H1.out.2.2.cell 1
      have d2 := H1.out.2.2.cell 2
      simp only [List.getElem?_cons_zero, List.getElem?_cons_succ] at d0 d1 d2
      go_wp2_with fail
      refine (HKD.out _).mono ?_
      rintro e w2 ⟨rfl, hb2⟩
      clear d0 d1 d2
      have H2 : Hid (Below w.heap.size w w2 ∧ MpN w2 B (rootN :: A) ∧ Blk w2 w.heap.size 29 [.string sp, .int .i64 k, .string st]) := ⟨H1.out.1.trans (hb2.mono H1.out.1.size), H1.out.2.1.over hb2, H1.out.2.2.over hb2⟩
      clear hb2
      have d0 := H2.out.2.2.cell 0
      have d1 := H2.out.2.2.cell 1
      have d2 := H2.out.2.2.cell 2
      simp only [List.getElem?_cons_zero, List.getElem?_cons_succ] at d0 d1 d2
      go_wp2_with fail
      go_ret
      exact ⟨by rw [HW.out]; rfl, H2.out.1⟩
    | true =>
      have HKD : Hid (∀ W, Calls Tryd.prog 54 #[.agg #[.string sp, .int .i64 k, .string st]] W (Tells W (.bool true))) := by have := HKD0.out; rw [hkd] at this; exact this
      have hr := (clean_ok hcl).1
      have HS : Hid (sp.size ≤ 100000) := by
        have := (right_iff.1 hr).1
        rw [lst_length] at this
        show _ ≤ _
        omega
      have HUP : Hid (∀ W, Calls Tryd.prog 43 #[.string sp] W (Tells W (.tuple #[.string (bar (upP (lst sp))), .int .i64 0]))) := fun W => by
        have := tup_any sp W
        rw [err_ok hr] at this
        exact this
      have HU : Hid ((bar (upP (lst sp))).size ≤ 100000) := by
        have := (right_iff.1 (up_again hr).1).1
        show _ ≤ _
        rw [bar_size]
        omega
      have HWX : Hid (wrongN A ⟨lst sp, k, lst st⟩ = if (findL A (lst sp)).isSome = true then 9 else upE A ⟨lst sp, k, lst st⟩) := wrong_two hcl hroot hkd
      have hfr : findL (rootN :: A) (lst sp) = findL A (lst sp) := (findL_root A (lst sp)).trans (if_neg hroot)
      have hfu : findL (rootN :: A) (lst (bar (upP (lst sp)))) = findN A (upP (lst sp)) := by rw [lst_bar]; exact findL_root A _
      clear hkd hcl hroot hr HKD0 HCL0
      cases hf : findL A (lst sp) with
      | some x =>
        have HW : Hid (wrongN A ⟨lst sp, k, lst st⟩ = 9) := by show _ = _; rw [HWX.out, hf]; rfl
        have HX1 : Hid (tellF (findL (rootN :: A) (lst sp)) = .tuple #[.agg #[.string (bar x.p), .int .i64 x.k, .string (bar x.t)], .bool true]) := by show _ = _; rw [hfr, hf]; rfl
        clear hf hfr hfu HWX
        generalize bar x.p = xp at *
        generalize x.k = xk at *
        generalize bar x.t = xt at *
        go_enter Tryd.func36, Tryd.ntmps36
        go_wp2_with fail
        refine (HCL.out _).mono ?_
        rintro e w1 ⟨rfl, hb1⟩
        clear d0 d1 d2
        have H1 : Hid (Below w.heap.size w w1 ∧ MpN w1 B (rootN :: A) ∧ Blk w1 w.heap.size 29 [.string sp, .int .i64 k, .string st]) := ⟨H0.out.1.trans (hb1.mono H0.out.1.size), H0.out.2.1.over hb1, H0.out.2.2.over hb1⟩
        clear hb1
        have d0 := H1.out.2.2.cell 0
        have d1 := H1.out.2.2.cell 1
        have d2 := H1.out.2.2.cell 2
        simp only [List.getElem?_cons_zero, List.getElem?_cons_succ] at d0 d1 d2
        go_wp2_with fail
        refine (HKD.out _).mono ?_
        rintro e w2 ⟨rfl, hb2⟩
        clear d0 d1 d2
        have H2 : Hid (Below w.heap.size w w2 ∧ MpN w2 B (rootN :: A) ∧ Blk w2 w.heap.size 29 [.string sp, .int .i64 k, .string st]) := ⟨H1.out.1.trans (hb2.mono H1.out.1.size), H1.out.2.1.over hb2, H1.out.2.2.over hb2⟩
        clear hb2
        have d0 := H2.out.2.2.cell 0
        have d1 := H2.out.2.2.cell 1
        have d2 := H2.out.2.2.cell 2
        simp only [List.getElem?_cons_zero, List.getElem?_cons_succ] at d0 d1 d2
        go_wp2_with (first | (at_lookup; refine list_getN rfl _ _ rfl rfl rfl HS.out H2.out.2.1 ?_; rw [HX1.out]) | fail)
        have HB3 : Hid (Below w.heap.size w (w2.alloc (.cells #[.string xp, .int .i64 xk, .string xt] 29))) := H2.out.1.trans ((below_new w2 _).mono H2.out.1.size)
        go_ret
        exact ⟨by rw [HW.out]; rfl, HB3.out⟩
      | none =>
        have HWY : Hid (wrongN A ⟨lst sp, k, lst st⟩ = upE A ⟨lst sp, k, lst st⟩) := by show _ = _; rw [HWX.out, hf]; rfl
        have HX1 : Hid (tellF (findL (rootN :: A) (lst sp)) = .tuple #[.agg #[.string ⟨#[]⟩, .int .i64 0, .string ⟨#[]⟩], .bool false]) := by show _ = _; rw [hfr, hf]; rfl
        cases hu : findN A (upP (lst sp)) with
        | none =>
          have HW : Hid (wrongN A ⟨lst sp, k, lst st⟩ = 17) := by show _ = _; rw [HWY.out]; unfold upE; rw [hu]
          have HX2 : Hid (tellF (findL (rootN :: A) (lst (bar (upP (lst sp))))) = .tuple #[.agg #[.string ⟨#[]⟩, .int .i64 0, .string ⟨#[]⟩], .bool false]) := by show _ = _; rw [hfu, hu]; rfl
          clear hf hfr hfu HWX HWY hu
          generalize bar (upP (lst sp)) = ub at *
          go_enter Tryd.func36, Tryd.ntmps36
          go_wp2_with fail
          refine (HCL.out _).mono ?_
          rintro e w1 ⟨rfl, hb1⟩
          clear d0 d1 d2
          have H1 : Hid (Below w.heap.size w w1 ∧ MpN w1 B (rootN :: A) ∧ Blk w1 w.heap.size 29 [.string sp, .int .i64 k, .string st]) := ⟨H0.out.1.trans (hb1.mono H0.out.1.size), H0.out.2.1.over hb1, H0.out.2.2.over hb1⟩
          clear hb1
          have d0 := H1.out.2.2.cell 0
          have d1 := H1.out.2.2.cell 1
          have d2 := H1.out.2.2.cell 2
          simp only [List.getElem?_cons_zero, List.getElem?_cons_succ] at d0 d1 d2
          go_wp2_with fail
          refine (HKD.out _).mono ?_
          rintro e w2 ⟨rfl, hb2⟩
          clear d0 d1 d2
          have H2 : Hid (Below w.heap.size w w2 ∧ MpN w2 B (rootN :: A) ∧ Blk w2 w.heap.size 29 [.string sp, .int .i64 k, .string st]) := ⟨H1.out.1.trans (hb2.mono H1.out.1.size), H1.out.2.1.over hb2, H1.out.2.2.over hb2⟩
          clear hb2
          have d0 := H2.out.2.2.cell 0
          have d1 := H2.out.2.2.cell 1
          have d2 := H2.out.2.2.cell 2
          simp only [List.getElem?_cons_zero, List.getElem?_cons_succ] at d0 d1 d2
          have hbz := below_new w2 (.cells #[.string ⟨#[]⟩, .int .i64 0, .string ⟨#[]⟩] 29)
          have H3 : Hid (Below w.heap.size w (w2.alloc (.cells #[.string ⟨#[]⟩, .int .i64 0, .string ⟨#[]⟩] 29)) ∧ MpN (w2.alloc (.cells #[.string ⟨#[]⟩, .int .i64 0, .string ⟨#[]⟩] 29)) B (rootN :: A) ∧ Blk (w2.alloc (.cells #[.string ⟨#[]⟩, .int .i64 0, .string ⟨#[]⟩] 29)) w.heap.size 29 [.string sp, .int .i64 k, .string st]) := ⟨H2.out.1.trans (hbz.mono H2.out.1.size), H2.out.2.1.over hbz, H2.out.2.2.over hbz⟩
          have e0 := H3.out.2.2.cell 0
          simp only [List.getElem?_cons_zero] at e0
          clear hbz
          go_wp2_with (first | (at_lookup; refine list_getN rfl _ _ rfl rfl rfl HS.out H2.out.2.1 ?_; rw [HX1.out]) | fail)
          refine (HUP.out _).mono ?_
          rintro e w4 ⟨rfl, hb4⟩
          clear d0 d1 d2 e0
          have H4 : Hid (Below w.heap.size w w4 ∧ MpN w4 B (rootN :: A) ∧ Blk w4 w.heap.size 29 [.string sp, .int .i64 k, .string st]) := ⟨H3.out.1.trans (hb4.mono H3.out.1.size), H3.out.2.1.over hb4, H3.out.2.2.over hb4⟩
          clear hb4
          have HB5 : Hid (∀ o : Obj, Below w.heap.size w (w4.alloc o)) := fun o => H4.out.1.trans ((below_new w4 o).mono H4.out.1.size)
          obtain ⟨f0, f1, f2⟩ := nd_cells w4 (.string ⟨#[]⟩) (.int .i64 0) (.string ⟨#[]⟩)
          go_wp2_with (first | (at_lookup; refine list_getN rfl _ _ rfl rfl rfl HU.out H4.out.2.1 ?_; rw [HX2.out]) | fail)
          go_ret
          exact ⟨by rw [HW.out]; rfl, HB5.out _⟩
        | some y =>
          by_cases hy : y.k = 2
          · have HW : Hid (wrongN A ⟨lst sp, k, lst st⟩ = 0) := by show _ = _; rw [HWY.out]; unfold upE; rw [hu]; exact if_pos hy
            have HX2 : Hid (tellF (findL (rootN :: A) (lst (bar (upP (lst sp))))) = .tuple #[.agg #[.string (bar y.p), .int .i64 2, .string (bar y.t)], .bool true]) := by show _ = _; rw [hfu, hu, ← hy]; rfl
            clear hf hfr hfu HWX HWY hu hy
            generalize bar (upP (lst sp)) = ub at *
            generalize bar y.p = yp at *
            generalize bar y.t = yt at *
            go_enter Tryd.func36, Tryd.ntmps36
            go_wp2_with fail
            refine (HCL.out _).mono ?_
            rintro e w1 ⟨rfl, hb1⟩
            clear d0 d1 d2
            have H1 : Hid (Below w.heap.size w w1 ∧ MpN w1 B (rootN :: A) ∧ Blk w1 w.heap.size 29 [.string sp, .int .i64 k, .string st]) := ⟨H0.out.1.trans (hb1.mono H0.out.1.size), H0.out.2.1.over hb1, H0.out.2.2.over hb1⟩
            clear hb1
            have d0 := H1.out.2.2.cell 0
            have d1 := H1.out.2.2.cell 1
            have d2 := H1.out.2.2.cell 2
            simp only [List.getElem?_cons_zero, List.getElem?_cons_succ] at d0 d1 d2
            go_wp2_with fail
            refine (HKD.out _).mono ?_
            rintro e w2 ⟨rfl, hb2⟩
            clear d0 d1 d2
            have H2 : Hid (Below w.heap.size w w2 ∧ MpN w2 B (rootN :: A) ∧ Blk w2 w.heap.size 29 [.string sp, .int .i64 k, .string st]) := ⟨H1.out.1.trans (hb2.mono H1.out.1.size), H1.out.2.1.over hb2, H1.out.2.2.over hb2⟩
            clear hb2
            have d0 := H2.out.2.2.cell 0
            have d1 := H2.out.2.2.cell 1
            have d2 := H2.out.2.2.cell 2
            simp only [List.getElem?_cons_zero, List.getElem?_cons_succ] at d0 d1 d2
            have hbz := below_new w2 (.cells #[.string ⟨#[]⟩, .int .i64 0, .string ⟨#[]⟩] 29)
            have H3 : Hid (Below w.heap.size w (w2.alloc (.cells #[.string ⟨#[]⟩, .int .i64 0, .string ⟨#[]⟩] 29)) ∧ MpN (w2.alloc (.cells #[.string ⟨#[]⟩, .int .i64 0, .string ⟨#[]⟩] 29)) B (rootN :: A) ∧ Blk (w2.alloc (.cells #[.string ⟨#[]⟩, .int .i64 0, .string ⟨#[]⟩] 29)) w.heap.size 29 [.string sp, .int .i64 k, .string st]) := ⟨H2.out.1.trans (hbz.mono H2.out.1.size), H2.out.2.1.over hbz, H2.out.2.2.over hbz⟩
            have e0 := H3.out.2.2.cell 0
            simp only [List.getElem?_cons_zero] at e0
            clear hbz
            go_wp2_with (first | (at_lookup; refine list_getN rfl _ _ rfl rfl rfl HS.out H2.out.2.1 ?_; rw [HX1.out]) | fail)
            refine (HUP.out _).mono ?_
            rintro e w4 ⟨rfl, hb4⟩
            clear d0 d1 d2 e0
            have H4 : Hid (Below w.heap.size w w4 ∧ MpN w4 B (rootN :: A) ∧ Blk w4 w.heap.size 29 [.string sp, .int .i64 k, .string st]) := ⟨H3.out.1.trans (hb4.mono H3.out.1.size), H3.out.2.1.over hb4, H3.out.2.2.over hb4⟩
            clear hb4
            have HB5 : Hid (∀ o : Obj, Below w.heap.size w (w4.alloc o)) := fun o => H4.out.1.trans ((below_new w4 o).mono H4.out.1.size)
            obtain ⟨f0, f1, f2⟩ := nd_cells w4 (.string yp) (.int .i64 2) (.string yt)
            go_wp2_with (first | (at_lookup; refine list_getN rfl _ _ rfl rfl rfl HU.out H4.out.2.1 ?_; rw [HX2.out]) | fail)
            go_ret
            exact ⟨by rw [HW.out]; rfl, HB5.out _⟩
          · have HW : Hid (wrongN A ⟨lst sp, k, lst st⟩ = 20) := by show _ = _; rw [HWY.out]; unfold upE; rw [hu]; exact if_neg hy
            have HX2 : Hid (tellF (findL (rootN :: A) (lst (bar (upP (lst sp))))) = .tuple #[.agg #[.string (bar y.p), .int .i64 y.k, .string (bar y.t)], .bool true]) := by show _ = _; rw [hfu, hu]; rfl
            have g1 : (y.k == 2) = false := beq_eq_false_iff_ne.2 hy
            have g2 : (y.k != 2) = true := by simp [bne, g1]
            clear hf hfr hfu HWX HWY hu hy
            generalize bar (upP (lst sp)) = ub at *
            generalize bar y.p = yp at *
            generalize bar y.t = yt at *
            generalize y.k = yk at *
            go_enter Tryd.func36, Tryd.ntmps36
            go_wp2_with fail
            refine (HCL.out _).mono ?_
            rintro e w1 ⟨rfl, hb1⟩
            clear d0 d1 d2
            have H1 : Hid (Below w.heap.size w w1 ∧ MpN w1 B (rootN :: A) ∧ Blk w1 w.heap.size 29 [.string sp, .int .i64 k, .string st]) := ⟨H0.out.1.trans (hb1.mono H0.out.1.size), H0.out.2.1.over hb1, H0.out.2.2.over hb1⟩
            clear hb1
            have d0 := H1.out.2.2.cell 0
            have d1 := H1.out.2.2.cell 1
            have d2 := H1.out.2.2.cell 2
            simp only [List.getElem?_cons_zero, List.getElem?_cons_succ] at d0 d1 d2
            go_wp2_with fail
            refine (HKD.out _).mono ?_
            rintro e w2 ⟨rfl, hb2⟩
            clear d0 d1 d2
            have H2 : Hid (Below w.heap.size w w2 ∧ MpN w2 B (rootN :: A) ∧ Blk w2 w.heap.size 29 [.string sp, .int .i64 k, .string st]) := ⟨H1.out.1.trans (hb2.mono H1.out.1.size), H1.out.2.1.over hb2, H1.out.2.2.over hb2⟩
            clear hb2
            have d0 := H2.out.2.2.cell 0
            have d1 := H2.out.2.2.cell 1
            have d2 := H2.out.2.2.cell 2
            simp only [List.getElem?_cons_zero, List.getElem?_cons_succ] at d0 d1 d2
            have hbz := below_new w2 (.cells #[.string ⟨#[]⟩, .int .i64 0, .string ⟨#[]⟩] 29)
            have H3 : Hid (Below w.heap.size w (w2.alloc (.cells #[.string ⟨#[]⟩, .int .i64 0, .string ⟨#[]⟩] 29)) ∧ MpN (w2.alloc (.cells #[.string ⟨#[]⟩, .int .i64 0, .string ⟨#[]⟩] 29)) B (rootN :: A) ∧ Blk (w2.alloc (.cells #[.string ⟨#[]⟩, .int .i64 0, .string ⟨#[]⟩] 29)) w.heap.size 29 [.string sp, .int .i64 k, .string st]) := ⟨H2.out.1.trans (hbz.mono H2.out.1.size), H2.out.2.1.over hbz, H2.out.2.2.over hbz⟩
            have e0 := H3.out.2.2.cell 0
            simp only [List.getElem?_cons_zero] at e0
            clear hbz
            go_wp2_with (first | (at_lookup; refine list_getN rfl _ _ rfl rfl rfl HS.out H2.out.2.1 ?_; rw [HX1.out]) | fail)
            refine (HUP.out _).mono ?_
            rintro e w4 ⟨rfl, hb4⟩
            clear d0 d1 d2 e0
            have H4 : Hid (Below w.heap.size w w4 ∧ MpN w4 B (rootN :: A) ∧ Blk w4 w.heap.size 29 [.string sp, .int .i64 k, .string st]) := ⟨H3.out.1.trans (hb4.mono H3.out.1.size), H3.out.2.1.over hb4, H3.out.2.2.over hb4⟩
            clear hb4
            have HB5 : Hid (∀ o : Obj, Below w.heap.size w (w4.alloc o)) := fun o => H4.out.1.trans ((below_new w4 o).mono H4.out.1.size)
            obtain ⟨f0, f1, f2⟩ := nd_cells w4 (.string yp) (.int .i64 yk) (.string yt)
            go_wp2_with (first | (at_lookup; refine list_getN rfl _ _ rfl rfl rfl HU.out H4.out.2.1 ?_; rw [HX2.out]) | fail)
            go_ret
            exact ⟨by rw [HW.out]; rfl, HB5.out _⟩

end Go.Proofs.YtilemgpopjlchaaDoor
