/-
  PathCleans, walked over any interface.
-/
import Derived.Test.YtkhojihmnplmcaaIfp
namespace Go.Proofs.Ytkhojihmnplmcaa
open Go.RowKit

set_option maxHeartbeats 4000000 in
theorem cleans_walk (J : Ifp) (w : World) (s : ByteArray) : Calls Try.prog 3 #[.string s] w (Tells w (.bool true)) := by
  have HB0 : Hid (Below w.heap.size w w) := Below.refl _ _
  by_cases hs : 2000 < s.size
  · have r1 : (2000 : Int) < (s.size : Int) := by omega
    have r1' : decide ((2000 : Int) < (s.size : Int)) = true := decide_eq_true r1
    go_enter Try.func3, Try.ntmps3
    go_wp2_with fail
    refine (awake_any J w).mono ?_
    rintro e w1 ⟨rfl, hb1⟩
    have HB1 : Hid (Below w.heap.size w w1) := HB0.out.trans (hb1.mono HB0.out.size)
    clear hb1
    go_wp2_with fail
    go_ret
    exact ⟨rfl, HB1.out⟩
  · have r1 : ¬ (2000 : Int) < (s.size : Int) := by omega
    have r1' : decide ((2000 : Int) < (s.size : Int)) = false := decide_eq_false r1
    have HS : Hid (s.size ≤ 2000) := by show _ ≤ _; omega
    have HE : Hid (∀ W, Calls Try.prog 10 #[.string s] W (Tells W (.tuple #[.string (bar (cleanP (lst s))), .int .i64 (errP (lst s))]))) := fun W => J.clean s W (by have := HS.out; omega)
    have HE2 : Hid (∀ W, Calls Try.prog 11 #[.string s] W (Tells W (.tuple #[.string (bar (cleanP (lst s))), .int .i64 (errP (lst s))]))) := fun W => rclean_any s W (by have := HS.out; omega)
    have HU : Hid (∀ W, Calls Try.prog 12 #[.string s] W (Tells W (.tuple #[.string (bar (upP (lst s))), .int .i64 (errP (lst s))]))) := fun W => J.up s W (by have := HS.out; omega)
    have HU2 : Hid (∀ W, Calls Try.prog 13 #[.string s] W (Tells W (.tuple #[.string (bar (upP (lst s))), .int .i64 (errP (lst s))]))) := fun W => rup_any s W (by have := HS.out; omega)
    have HR : Hid (∀ W, Calls Try.prog 14 #[.string s] W (Tells W (.bool (rightP (lst s))))) := fun W => J.right s W (by have := HS.out; omega)
    have HR2 : Hid (∀ W, Calls Try.prog 15 #[.string s] W (Tells W (.bool (rightP (lst s))))) := fun W => (rright_any s W (by have := HS.out; omega)).mono fun e w' ⟨h1, h2⟩ => ⟨h1, h2 ▸ Below.refl _ _⟩
    generalize bar (cleanP (lst s)) = a at *
    generalize bar (upP (lst s)) = b at *
    generalize errP (lst s) = x at *
    generalize rightP (lst s) = q at *
    clear HS hs
    go_enter Try.func3, Try.ntmps3
    go_wp2_with fail
    refine (awake_any J w).mono ?_
    rintro e w1 ⟨rfl, hb1⟩
    have HB1 : Hid (Below w.heap.size w w1) := HB0.out.trans (hb1.mono HB0.out.size)
    clear hb1
    go_wp2_with fail
    refine (HE.out w1).mono ?_
    rintro e w2 ⟨rfl, hb2⟩
    have HB2 : Hid (Below w.heap.size w w2) := HB1.out.trans (hb2.mono HB1.out.size)
    clear hb2
    go_wp2_with fail
    refine (HE2.out w2).mono ?_
    rintro e w3 ⟨rfl, hb3⟩
    have HB3 : Hid (Below w.heap.size w w3) := HB2.out.trans (hb3.mono HB2.out.size)
    clear hb3
    go_wp2_with fail
    refine (HU.out w3).mono ?_
    rintro e w4 ⟨rfl, hb4⟩
    have HB4 : Hid (Below w.heap.size w w4) := HB3.out.trans (hb4.mono HB3.out.size)
    clear hb4
    go_wp2_with fail
    refine (HU2.out w4).mono ?_
    rintro e w5 ⟨rfl, hb5⟩
    have HB5 : Hid (Below w.heap.size w w5) := HB4.out.trans (hb5.mono HB4.out.size)
    clear hb5
    go_wp2_with fail
    refine (HR.out w5).mono ?_
    rintro e w6 ⟨rfl, hb6⟩
    have HB6 : Hid (Below w.heap.size w w6) := HB5.out.trans (hb6.mono HB5.out.size)
    clear hb6
    go_wp2_with fail
    refine (HR2.out w6).mono ?_
    rintro e w7 ⟨rfl, hb7⟩
    have HB7 : Hid (Below w.heap.size w w7) := HB6.out.trans (hb7.mono HB6.out.size)
    clear hb7
    go_wp2_with fail
    go_ret
    exact ⟨ret_bool (by simp), HB7.out⟩

end Go.Proofs.Ytkhojihmnplmcaa
