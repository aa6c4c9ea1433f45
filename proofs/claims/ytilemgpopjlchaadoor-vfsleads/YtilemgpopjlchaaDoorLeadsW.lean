/-
  VfsLeads, walked over any interface.
-/
import Derived.Test.YtilemgpopjlchaaDoorVIfc
import Derived.Test.YtilemgpopjlchaaDoorVMath2
namespace Go.Proofs.YtilemgpopjlchaaDoor
open Go.RowKit

set_option maxHeartbeats 8000000 in
theorem leads_walk (J : Ifv) (w : World) (v : Value) (L : List Nd) (s : ByteArray) (h : NdR w v L) : Calls Tryd.prog 5 #[v, .string s] w (Tells w (.bool true)) := by
  have H0 : Hid (NdR w v L ∧ Below w.heap.size w w) := ⟨h, Below.refl _ _⟩
  have HLT : Hid (∀ W, NdR W v L → Calls Tryd.prog 10 #[v] W fun e w' => e = .returned (.bool (ltB L)) ∧ w' = W) := fun W h => light_any v L W h
  clear h
  by_cases hl : ltB L = true
  case neg =>
    have HLF : Hid (∀ W, NdR W v L → Calls Tryd.prog 10 #[v] W fun e w' => e = .returned (.bool false) ∧ w' = W) := by
      have := HLT.out
      rw [Bool.not_eq_true] at hl
      rw [hl] at this
      exact this
    clear hl HLT
    go_enter Tryd.func5, Tryd.ntmps5
    go_wp2_with fail
    refine (awake_any J _).mono ?_
    rintro e w1 ⟨rfl, hb1⟩
    have H1 : Hid (NdR w1 v L ∧ Below w.heap.size w w1) := ⟨H0.out.1.over hb1, H0.out.2.trans (hb1.mono H0.out.2.size)⟩
    clear hb1
    go_wp2_with fail
    refine (HLF.out _ H1.out.1).mono ?_
    rintro e w2 ⟨rfl, hw2⟩; subst w2
    go_wp2_with fail
    go_ret
    exact ⟨rfl, H1.out.2⟩
  have HLX : Hid (Lt L) := lt_iff.1 hl
  rw [hl] at HLT
  clear hl
  by_cases hs : 1000 < s.size
  case pos =>
    have r1 : (1000 : Int) < (s.size : Int) := by omega
    have r1' : decide ((1000 : Int) < (s.size : Int)) = true := decide_eq_true r1
    go_enter Tryd.func5, Tryd.ntmps5
    go_wp2_with fail
    refine (awake_any J _).mono ?_
    rintro e w1 ⟨rfl, hb1⟩
    have H1 : Hid (NdR w1 v L ∧ Below w.heap.size w w1) := ⟨H0.out.1.over hb1, H0.out.2.trans (hb1.mono H0.out.2.size)⟩
    clear hb1
    go_wp2_with fail
    refine (HLT.out _ H1.out.1).mono ?_
    rintro e w2 ⟨rfl, hw2⟩; subst w2
    go_wp2_with fail
    go_ret
    exact ⟨rfl, H1.out.2⟩
  have r1 : ¬ (1000 : Int) < (s.size : Int) := by omega
  have r1' : decide ((1000 : Int) < (s.size : Int)) = false := decide_eq_false r1
  have HR0 : Hid (∀ W, NdR W v L → Calls Tryd.prog 15 #[v, .string s] W (Tells W (tellR (resV L (lst s))))) := fun W h => J.resolve v L s W h HLX.out (by omega)
  clear hs
  rcases res_cases L (lst s) with ⟨e1, e2, e3⟩ | e0
  · generalize resV L (lst s) = R at *
    obtain ⟨ra, rk, re⟩ := R
    simp only at e1 e2 e3
    subst e1 e2
    have HR1 : Hid (∀ W, NdR W v L → Calls Tryd.prog 15 #[v, .string s] W (Tells W (.tuple #[.string ⟨#[]⟩, .int .i64 0, .int .i64 re]))) := HR0.out
    clear HR0
    have q1 : (re == 0) = false := beq_eq_false_iff_ne.2 e3
    have q2 : (re != 0) = true := by simp [bne, q1]
    go_enter Tryd.func5, Tryd.ntmps5
    go_wp2_with fail
    refine (awake_any J _).mono ?_
    rintro e w1 ⟨rfl, hb1⟩
    have H1 : Hid (NdR w1 v L ∧ Below w.heap.size w w1) := ⟨H0.out.1.over hb1, H0.out.2.trans (hb1.mono H0.out.2.size)⟩
    clear hb1
    go_wp2_with fail
    refine (HLT.out _ H1.out.1).mono ?_
    rintro e w2 ⟨rfl, hw2⟩; subst w2
    go_wp2_with fail
    refine (HR1.out _ H1.out.1).mono ?_
    rintro e w3 ⟨rfl, hb3⟩
    have H3 : Hid (NdR w3 v L ∧ Below w.heap.size w w3) := ⟨H1.out.1.over hb3, H1.out.2.trans (hb3.mono H1.out.2.size)⟩
    clear hb3
    go_wp2_with fail
    go_ret
    exact ⟨rfl, H3.out.2⟩
  · obtain ⟨a, k, he, hk, hal, hcl, her, hra, y, hy, hyk⟩ := res_leads e0
    have HR1 : Hid (∀ W, NdR W v L → Calls Tryd.prog 15 #[v, .string s] W (Tells W (.tuple #[.string (bar a), .int .i64 k, .int .i64 0]))) := by
      have := HR0.out
      rw [he] at this
      exact this
    have HCL : Hid (∀ W, Calls Tryd.prog 17 #[.string (bar a)] W (Tells W (.tuple #[.string (bar a), .int .i64 0]))) := fun W => by
      have := J.clean (bar a) W
      rw [lst_bar, hcl, her] at this
      exact this
    have HR2 : Hid (∀ W, NdR W v L → Calls Tryd.prog 15 #[v, .string (bar a)] W (Tells W (.tuple #[.string (bar a), .int .i64 k, .int .i64 0]))) := fun W h => by
      have := J.resolve v L (bar a) W h HLX.out (by rw [bar_size]; omega)
      rw [lst_bar, hra] at this
      exact this
    have HF : Hid (∃ yp yt, ∀ W, NdR W v L → Calls Tryd.prog 13 #[v, .string (bar a)] W (Tells W (.tuple #[.agg #[.string yp, .int .i64 k, .string yt], .bool true]))) := ⟨bar y.p, bar y.t, fun W h => by
      have := J.find v L (bar a) W h HLX.out (by rw [bar_size]; omega)
      rw [lst_bar, hy] at this
      rw [← hyk]
      exact this⟩
    clear HR0 he hal hcl her hra hy hyk e0
    obtain ⟨yp, yt, hF⟩ := HF.out
    have HF1 : Hid (∀ W, NdR W v L → Calls Tryd.prog 13 #[v, .string (bar a)] W (Tells W (.tuple #[.agg #[.string yp, .int .i64 k, .string yt], .bool true]))) := hF
    clear hF HF
    generalize bar a = a' at *
    rcases hk with rfl | rfl
    all_goals
      go_enter Tryd.func5, Tryd.ntmps5
      go_wp2_with fail
      refine (awake_any J _).mono ?_
      rintro e w1 ⟨rfl, hb1⟩
      have H1 : Hid (NdR w1 v L ∧ Below w.heap.size w w1) := ⟨H0.out.1.over hb1, H0.out.2.trans (hb1.mono H0.out.2.size)⟩
      clear hb1
      go_wp2_with fail
      refine (HLT.out _ H1.out.1).mono ?_
      rintro e w2 ⟨rfl, hw2⟩; subst w2
      go_wp2_with fail
      refine (HR1.out _ H1.out.1).mono ?_
      rintro e w3 ⟨rfl, hb3⟩
      have H3 : Hid (NdR w3 v L ∧ Below w.heap.size w w3) := ⟨H1.out.1.over hb3, H1.out.2.trans (hb3.mono H1.out.2.size)⟩
      clear hb3
      go_wp2_with fail
      refine (HCL.out _).mono ?_
      rintro e w4 ⟨rfl, hb4⟩
      have H4 : Hid (NdR w4 v L ∧ Below w.heap.size w w4) := ⟨H3.out.1.over hb4, H3.out.2.trans (hb4.mono H3.out.2.size)⟩
      clear hb4
      go_wp2_with fail
      refine (HR2.out _ H4.out.1).mono ?_
      rintro e w5 ⟨rfl, hb5⟩
      have H5 : Hid (NdR w5 v L ∧ Below w.heap.size w w5) := ⟨H4.out.1.over hb5, H4.out.2.trans (hb5.mono H4.out.2.size)⟩
      clear hb5
      go_wp2_with fail
      refine (HF1.out _ H5.out.1).mono ?_
      rintro e w6 ⟨rfl, hb6⟩
      have H6 : Hid (∀ o : Obj, Below w.heap.size w (w6.alloc o)) := fun o => (H5.out.2.trans (hb6.mono H5.out.2.size)).trans ((below_new w6 o).mono (Nat.le_trans H5.out.2.size hb6.size))
      clear hb6
      go_wp2_with fail
      go_ret
      exact ⟨rfl, H6.out _⟩

end Go.Proofs.YtilemgpopjlchaaDoor
