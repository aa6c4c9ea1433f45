/-
  PathWithin, walked over any interface.
-/
import Derived.Test.YtkhojihmnplmcaaIfp
namespace Go.Proofs.Ytkhojihmnplmcaa
open Go.RowKit

set_option maxHeartbeats 4000000 in
theorem within_walk (J : Ifp) (w : World) (s d : ByteArray) : Calls Try.prog 5 #[.string s, .string d] w (Tells w (.bool true)) := by
  have HB0 : Hid (Below w.heap.size w w) := Below.refl _ _
  by_cases hs : 2000 < s.size
  · have r1 : (2000 : Int) < (s.size : Int) := by omega
    have r1' : decide ((2000 : Int) < (s.size : Int)) = true := decide_eq_true r1
    go_enter Try.func5, Try.ntmps5
    go_wp2_with fail
    refine (awake_any J w).mono ?_
    rintro e w1 ⟨rfl, hb1⟩
    have HB1 : Hid (Below w.heap.size w w1) := HB0.out.trans (hb1.mono HB0.out.size)
    clear hb1
    go_wp2_with fail
    go_ret
    exact ⟨rfl, HB1.out⟩
  · have r1 : ¬ (2000 : Int) < (s.size : Int) := by omega
    have r1' : decide ((2000 : Int) < (s.size : Int)) = false := decide_eq_false r1
    by_cases hd : 2000 < d.size
    · have r2 : (2000 : Int) < (d.size : Int) := by omega
      have r2' : decide ((2000 : Int) < (d.size : Int)) = true := decide_eq_true r2
      go_enter Try.func5, Try.ntmps5
      go_wp2_with fail
      refine (awake_any J w).mono ?_
      rintro e w1 ⟨rfl, hb1⟩
      have HB1 : Hid (Below w.heap.size w w1) := HB0.out.trans (hb1.mono HB0.out.size)
      clear hb1
      go_wp2_with fail
      go_ret
      exact ⟨rfl, HB1.out⟩
    · have r2 : ¬ (2000 : Int) < (d.size : Int) := by omega
      have r2' : decide ((2000 : Int) < (d.size : Int)) = false := decide_eq_false r2
      have HE : Hid (∀ W, Calls Try.prog 20 #[.string s, .string d] W (Tells W (.bool (withinP (lst s) (lst d))))) := fun W => J.within s d W (by omega) (by omega)
      have HE2 : Hid (∀ W, Calls Try.prog 21 #[.string s, .string d] W (Tells W (.bool (withinP (lst s) (lst d))))) := fun W => rwithin_any s d W (by omega) (by omega)
      generalize withinP (lst s) (lst d) = q at *
      clear hs hd
      go_enter Try.func5, Try.ntmps5
      go_wp2_with fail
      refine (awake_any J w).mono ?_
      rintro e w1 ⟨rfl, hb1⟩
      have HB1 : Hid (Below w.heap.size w w1) := HB0.out.trans (hb1.mono HB0.out.size)
      clear hb1
      go_wp2_with fail
      refine (HE.out w1).mono ?_
      rintro e w2 ⟨rfl, hb2⟩
      have HB2 : Hid (Below w.heap.size w w2) := HB1.out.trans (hb2.mono HB1.out.size)
      clear hb2
      go_wp2_with fail
      refine (HE2.out w2).mono ?_
      rintro e w3 ⟨rfl, hb3⟩
      have HB3 : Hid (Below w.heap.size w w3) := HB2.out.trans (hb3.mono HB2.out.size)
      clear hb3
      go_wp2_with fail
      go_ret
      exact ⟨ret_bool (by simp), HB3.out⟩

end Go.Proofs.Ytkhojihmnplmcaa
