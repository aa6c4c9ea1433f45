/-
  VfsResolves, walked over any interface.
-/
import Derived.Test.YtilemgpopjlchaaDoorVIfc
namespace Go.Proofs.YtilemgpopjlchaaDoor
open Go.RowKit

set_option maxHeartbeats 8000000 in
theorem resolves_walk (J : Ifv) (K : Ifd) (w : World) (v : Value) (L : List Nd) (s : ByteArray) (h : NdR w v L) : Calls Tryd.prog 4 #[v, .string s] w (Tells w (.bool true)) := by
  have H0 : Hid (NdR w v L ∧ Below w.heap.size w w) := ⟨h, Below.refl _ _⟩
  have HLT : Hid (∀ W, NdR W v L → Calls Tryd.prog 10 #[v] W fun e w' => e = .returned (.bool (ltB L)) ∧ w' = W) := fun W h => light_any v L W h
  clear h
  by_cases hl : ltB L = true
  case neg =>
    have HLF : Hid (∀ W, NdR W v L → Calls Tryd.prog 10 #[v] W fun e w' => e = .returned (.bool false) ∧ w' = W) := by
      have := HLT.out
      rw [Bool.not_eq_true] at hl
      rw [hl] at this
      exact this
    clear hl HLT
    go_enter Tryd.func4, Tryd.ntmps4
    go_wp2_with fail
    refine (awake_any J _).mono ?_
    rintro e w1 ⟨rfl, hb1⟩
    have H1 : Hid (NdR w1 v L ∧ Below w.heap.size w w1) := ⟨H0.out.1.over hb1, H0.out.2.trans (hb1.mono H0.out.2.size)⟩
    clear hb1
    go_wp2_with fail
    refine (HLF.out _ H1.out.1).mono ?_
    rintro e w2 ⟨rfl, hw2⟩; subst w2
    go_wp2_with fail
    go_ret
    exact ⟨rfl, H1.out.2⟩
  have HLX : Hid (Lt L) := lt_iff.1 hl
  rw [hl] at HLT
  clear hl
  by_cases hs : 1000 < s.size
  case pos =>
    have r1 : (1000 : Int) < (s.size : Int) := by omega
    have r1' : decide ((1000 : Int) < (s.size : Int)) = true := decide_eq_true r1
    go_enter Tryd.func4, Tryd.ntmps4
    go_wp2_with fail
    refine (awake_any J _).mono ?_
    rintro e w1 ⟨rfl, hb1⟩
    have H1 : Hid (NdR w1 v L ∧ Below w.heap.size w w1) := ⟨H0.out.1.over hb1, H0.out.2.trans (hb1.mono H0.out.2.size)⟩
    clear hb1
    go_wp2_with fail
    refine (HLT.out _ H1.out.1).mono ?_
    rintro e w2 ⟨rfl, hw2⟩; subst w2
    go_wp2_with fail
    go_ret
    exact ⟨rfl, H1.out.2⟩
  have r1 : ¬ (1000 : Int) < (s.size : Int) := by omega
  have r1' : decide ((1000 : Int) < (s.size : Int)) = false := decide_eq_false r1
  have HR1 : Hid (∀ W, NdR W v L → Calls Tryd.prog 15 #[v, .string s] W (Tells W (tellR (resV L (lst s))))) := fun W h => J.resolve v L s W h HLX.out (by omega)
  have HR2 : Hid (∀ W, NdR W v L → Calls Tryd.prog 16 #[v, .string s] W (Tells W (tellR (resV L (lst s))))) := fun W h => K.resolve v L s W h HLX.out (by omega)
  clear hs
  generalize resV L (lst s) = R at *
  obtain ⟨ra, rk, re⟩ := R
  unfold tellR at HR1 HR2
  simp only at HR1 HR2
  generalize bar ra = a at *
  go_enter Tryd.func4, Tryd.ntmps4
  go_wp2_with fail
  refine (awake_any J _).mono ?_
  rintro e w1 ⟨rfl, hb1⟩
  have H1 : Hid (NdR w1 v L ∧ Below w.heap.size w w1) := ⟨H0.out.1.over hb1, H0.out.2.trans (hb1.mono H0.out.2.size)⟩
  clear hb1
  go_wp2_with fail
  refine (HLT.out _ H1.out.1).mono ?_
  rintro e w2 ⟨rfl, hw2⟩; subst w2
  go_wp2_with fail
  refine (HR1.out _ H1.out.1).mono ?_
  rintro e w3 ⟨rfl, hb3⟩
  have H3 : Hid (NdR w3 v L ∧ Below w.heap.size w w3) := ⟨H1.out.1.over hb3, H1.out.2.trans (hb3.mono H1.out.2.size)⟩
  clear hb3
  go_wp2_with fail
  refine (HR2.out _ H3.out.1).mono ?_
  rintro e w4 ⟨rfl, hb4⟩
  have H4 : Hid (Below w.heap.size w w4) := H3.out.2.trans (hb4.mono H3.out.2.size)
  clear hb4
  go_wp2_with fail
  go_ret
  exact ⟨rfl, H4.out⟩

end Go.Proofs.YtilemgpopjlchaaDoor
