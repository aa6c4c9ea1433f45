/-
  VfsChecks, walked over any interface.
-/
import Derived.Test.YtilemgpopjlchaaDoorVIfc
namespace Go.Proofs.YtilemgpopjlchaaDoor
open Go.RowKit

set_option maxHeartbeats 8000000 in
theorem checks_walk (J : Ifv) (K : Ifd) (w : World) (v : Value) (L : List Nd) (s : ByteArray) (h : NdR w v L) : Calls Tryd.prog 3 #[v, .string s] w (Tells w (.bool true)) := by
  have H0 : Hid (NdR w v L ∧ Below w.heap.size w w) := ⟨h, Below.refl _ _⟩
  have HLT : Hid (∀ W, NdR W v L → Calls Tryd.prog 10 #[v] W fun e w' => e = .returned (.bool (ltB L)) ∧ w' = W) := fun W h => light_any v L W h
  clear h
  by_cases hl : ltB L = true
  case neg =>
    have HLF : Hid (∀ W, NdR W v L → Calls Tryd.prog 10 #[v] W fun e w' => e = .returned (.bool false) ∧ w' = W) := by
      have := HLT.out
      rw [Bool.not_eq_true] at hl
      rw [hl] at this
      exact this
    clear hl HLT
    go_enter Tryd.func3, Tryd.ntmps3
    go_wp2_with fail
    refine (awake_any J _).mono ?_
    rintro e w1 ⟨rfl, hb1⟩
    have H1 : Hid (NdR w1 v L ∧ Below w.heap.size w w1) := ⟨H0.out.1.over hb1, H0.out.2.trans (hb1.mono H0.out.2.size)⟩
    clear hb1
    go_wp2_with fail
    refine (HLF.out _ H1.out.1).mono ?_
    rintro e w2 ⟨rfl, hw2⟩; subst w2
    go_wp2_with fail
    go_ret
    exact ⟨rfl, H1.out.2⟩
  have HLX : Hid (Lt L) := lt_iff.1 hl
  rw [hl] at HLT
  clear hl
  by_cases hs : 1000 < s.size
  case pos =>
    have r1 : (1000 : Int) < (s.size : Int) := by omega
    have r1' : decide ((1000 : Int) < (s.size : Int)) = true := decide_eq_true r1
    go_enter Tryd.func3, Tryd.ntmps3
    go_wp2_with fail
    refine (awake_any J _).mono ?_
    rintro e w1 ⟨rfl, hb1⟩
    have H1 : Hid (NdR w1 v L ∧ Below w.heap.size w w1) := ⟨H0.out.1.over hb1, H0.out.2.trans (hb1.mono H0.out.2.size)⟩
    clear hb1
    go_wp2_with fail
    refine (HLT.out _ H1.out.1).mono ?_
    rintro e w2 ⟨rfl, hw2⟩; subst w2
    go_wp2_with fail
    go_ret
    exact ⟨rfl, H1.out.2⟩
  have r1 : ¬ (1000 : Int) < (s.size : Int) := by omega
  have r1' : decide ((1000 : Int) < (s.size : Int)) = false := decide_eq_false r1
  have HC1 : Hid (∀ W, NdR W v L → Calls Tryd.prog 11 #[v] W (Tells W (tellC (chkN L)))) := fun W h => J.check v L W h
  have HC2 : Hid (∀ W, NdR W v L → Calls Tryd.prog 12 #[v] W (Tells W (tellC (chkN L)))) := fun W h => K.check v L W h HLX.out
  have HF1 : Hid (∀ W, NdR W v L → Calls Tryd.prog 13 #[v, .string s] W (Tells W (tellF (findN L (lst s))))) := fun W h => J.find v L s W h HLX.out (by omega)
  have HF2 : Hid (∀ W, NdR W v L → Calls Tryd.prog 14 #[v, .string s] W (Tells W (tellF (findN L (lst s))))) := fun W h => K.find v L s W h HLX.out (by omega)
  clear hs
  generalize chkN L = C at *
  obtain ⟨ce, cn⟩ := C
  generalize findN L (lst s) = F at *
  unfold tellC at HC1 HC2
  unfold tellF at HF1 HF2
  generalize F.isSome = fs at *
  generalize fndN F = y at *
  unfold Nd.v at HF1 HF2
  simp only at HC1 HC2
  generalize bar y.p = yp at *
  generalize y.k = yk at *
  generalize bar y.t = yt at *
  have heq : ∀ W, (binOp .eql 29 (.agg #[.string yp, .int .i64 yk, .string yt]) (.agg #[.string yp, .int .i64 yk, .string yt])).run Tryd.prog W = .ok (.bool true) W := fun W => eql_nd yp yt yk W
  have hgd : ∀ (W : World) (p q : Operand), (eqGuard .eql 29 p q (.agg #[.string yp, .int .i64 yk, .string yt]) (.agg #[.string yp, .int .i64 yk, .string yt])).run Tryd.prog W = .ok () W := fun W p q => guard_nd _ _ _ _ _ W (.inl rfl)
  go_enter Tryd.func3, Tryd.ntmps3
  go_wp2_with fail
  refine (awake_any J _).mono ?_
  rintro e w1 ⟨rfl, hb1⟩
  have H1 : Hid (NdR w1 v L ∧ Below w.heap.size w w1) := ⟨H0.out.1.over hb1, H0.out.2.trans (hb1.mono H0.out.2.size)⟩
  clear hb1
  go_wp2_with fail
  refine (HLT.out _ H1.out.1).mono ?_
  rintro e w2 ⟨rfl, hw2⟩; subst w2
  go_wp2_with fail
  refine (HC1.out _ H1.out.1).mono ?_
  rintro e w3 ⟨rfl, hb3⟩
  have H3 : Hid (NdR w3 v L ∧ Below w.heap.size w w3) := ⟨H1.out.1.over hb3, H1.out.2.trans (hb3.mono H1.out.2.size)⟩
  clear hb3
  go_wp2_with fail
  refine (HC2.out _ H3.out.1).mono ?_
  rintro e w4 ⟨rfl, hb4⟩
  have H4 : Hid (NdR w4 v L ∧ Below w.heap.size w w4) := ⟨H3.out.1.over hb4, H3.out.2.trans (hb4.mono H3.out.2.size)⟩
  clear hb4
  go_wp2_with fail
  refine (HF1.out _ H4.out.1).mono ?_
  rintro e w5 ⟨rfl, hb5⟩
  have H5 : Hid (NdR w5 v L ∧ Below w.heap.size w w5) := ⟨H4.out.1.over hb5, H4.out.2.trans (hb5.mono H4.out.2.size)⟩
  clear hb5
  go_wp2_with fail
  have HN5 : Hid (Below w5.heap.size w5 (w5.alloc (.cells #[.string yp, .int .i64 yk, .string yt] 29)) ∧ Blk (w5.alloc (.cells #[.string yp, .int .i64 yk, .string yt] 29)) w5.heap.size 29 [.string yp, .int .i64 yk, .string yt]) := ⟨below_new w5 _, heap_alloc_new w5 _⟩
  refine (HF2.out _ (H5.out.1.over HN5.out.1)).mono ?_
  rintro e w6 ⟨rfl, hb6⟩
  have H6 : Hid (Below w.heap.size w w6 ∧ Blk w6 w5.heap.size 29 [.string yp, .int .i64 yk, .string yt]) := ⟨H5.out.2.trans ((HN5.out.1.trans (hb6.mono HN5.out.1.size)).mono H5.out.2.size), HN5.out.2.over hb6⟩
  clear hb6
  have HN6 : Hid (Below w6.heap.size w6 (w6.alloc (.cells #[.string yp, .int .i64 yk, .string yt] 29)) ∧ Blk (w6.alloc (.cells #[.string yp, .int .i64 yk, .string yt] 29)) w6.heap.size 29 [.string yp, .int .i64 yk, .string yt]) := ⟨below_new w6 _, heap_alloc_new w6 _⟩
  have b5 := H6.out.2.over HN6.out.1
  have c0 := b5.cell 0
  have c1 := b5.cell 1
  have c2 := b5.cell 2
  have d0 := HN6.out.2.cell 0
  have d1 := HN6.out.2.cell 1
  have d2 := HN6.out.2.cell 2
  simp only [List.getElem?_cons_zero, List.getElem?_cons_succ] at c0 c1 c2 d0 d1 d2
  clear b5
  have HF : Hid (Below w.heap.size w (w6.alloc (.cells #[.string yp, .int .i64 yk, .string yt] 29))) := H6.out.1.trans (HN6.out.1.mono H6.out.1.size)
  go_wp2_with fail
  go_ret
  exact ⟨rfl, HF.out⟩

end Go.Proofs.YtilemgpopjlchaaDoor
