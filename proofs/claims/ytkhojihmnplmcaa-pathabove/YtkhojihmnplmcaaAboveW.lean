/-
  PathAbove, walked over any interface.
-/
import Derived.Test.YtkhojihmnplmcaaIfp
namespace Go.Proofs.Ytkhojihmnplmcaa
open Go.RowKit

theorem lst_le {l : List UInt8} {n : Nat} (h : l.length ≤ n) : (bar l).size ≤ n := by rw [bar_size]; exact h
theorem right_len {l : List UInt8} (h : rightP l = true) : l.length ≤ 5000 := by have := (right_iff.1 h).1; omega

set_option maxHeartbeats 8000000 in
theorem above_walk (J : Ifp) (w : World) (s t : ByteArray) : Calls Try.prog 7 #[.string s, .string t] w (Tells w (.bool true)) := by
  have HB0 : Hid (Below w.heap.size w w) := Below.refl _ _
  by_cases hs : 2000 < s.size
  · have r1 : (2000 : Int) < (s.size : Int) := by omega
    have r1' : decide ((2000 : Int) < (s.size : Int)) = true := decide_eq_true r1
    go_enter Try.func7, Try.ntmps7
    go_wp2_with fail
    refine (awake_any J w).mono ?_
    rintro e w1 ⟨rfl, hb1⟩
    have HB1 : Hid (Below w.heap.size w w1) := HB0.out.trans (hb1.mono HB0.out.size)
    clear hb1
    go_wp2_with fail
    go_ret
    exact ⟨rfl, HB1.out⟩
  · have r1 : ¬ (2000 : Int) < (s.size : Int) := by omega
    have r1' : decide ((2000 : Int) < (s.size : Int)) = false := decide_eq_false r1
    by_cases hd : 2000 < t.size
    · have r2 : (2000 : Int) < (t.size : Int) := by omega
      have r2' : decide ((2000 : Int) < (t.size : Int)) = true := decide_eq_true r2
      go_enter Try.func7, Try.ntmps7
      go_wp2_with fail
      refine (awake_any J w).mono ?_
      rintro e w1 ⟨rfl, hb1⟩
      have HB1 : Hid (Below w.heap.size w w1) := HB0.out.trans (hb1.mono HB0.out.size)
      clear hb1
      go_wp2_with fail
      go_ret
      exact ⟨rfl, HB1.out⟩
    · have r2 : ¬ (2000 : Int) < (t.size : Int) := by omega
      have r2' : decide ((2000 : Int) < (t.size : Int)) = false := decide_eq_false r2
      have HS : Hid (s.size ≤ 2000 ∧ t.size ≤ 2000) := ⟨by omega, by omega⟩
      have HU0 : Hid (∀ W, Calls Try.prog 12 #[.string s] W (Tells W (.tuple #[.string (bar (upP (lst s))), .int .i64 (errP (lst s))]))) := fun W => J.up s W (by have := HS.out; omega)
      clear hs hd
      cases hr : rightP (lst s) with
      | false =>
        have e1 : upP (lst s) = [] := by unfold upP; rw [hr]; rfl
        rw [err_no hr, e1] at HU0
        have HU2 : Hid (∀ W, Calls Try.prog 12 #[.string (bar [])] W (Tells W (.tuple #[.string (bar []), .int .i64 1]))) := fun W => J.up (bar []) W (by decide)
        replace HU0 : Hid (∀ W, Calls Try.prog 12 #[.string s] W (Tells W (.tuple #[.string ⟨#[]⟩, .int .i64 1]))) := HU0
        replace HU2 : Hid (∀ W, Calls Try.prog 12 #[.string ⟨#[]⟩] W (Tells W (.tuple #[.string ⟨#[]⟩, .int .i64 1]))) := HU2
        clear hr e1
        go_enter Try.func7, Try.ntmps7
        go_wp2_with fail
        refine (awake_any J w).mono ?_
        rintro e w1 ⟨rfl, hb1⟩
        have HB1 : Hid (Below w.heap.size w w1) := HB0.out.trans (hb1.mono HB0.out.size)
        clear hb1
        go_wp2_with fail
        refine (HU0.out w1).mono ?_
        rintro e w2 ⟨rfl, hb2⟩
        have HB2 : Hid (Below w.heap.size w w2) := HB1.out.trans (hb2.mono HB1.out.size)
        clear hb2
        go_wp2_with fail
        refine (HU2.out w2).mono ?_
        rintro e w3 ⟨rfl, hb3⟩
        have HB3 : Hid (Below w.heap.size w w3) := HB2.out.trans (hb3.mono HB2.out.size)
        clear hb3
        go_wp2_with fail
        go_ret
        exact ⟨ret_bool (by simp), HB3.out⟩
      | true =>
        obtain ⟨hu, _⟩ := up_again hr
        obtain ⟨hv, _⟩ := up_again hu
        obtain ⟨u, hu1⟩ : ∃ u, bar (upP (lst s)) = u := ⟨_, rfl⟩
        obtain ⟨v, hv1⟩ : ∃ v, bar (upP (upP (lst s))) = v := ⟨_, rfl⟩
        have hu2 : upP (lst s) = lst u := by rw [← hu1, lst_bar]
        have hv2 : upP (upP (lst s)) = lst v := by rw [← hv1, lst_bar]
        have hus : u.size ≤ 5000 := by rw [← hu1]; exact lst_le (right_len hu)
        have hvs : v.size ≤ 5000 := by rw [← hv1]; exact lst_le (right_len hv)
        rw [err_ok hr, hu1] at HU0
        have HU2 : Hid (∀ W, Calls Try.prog 12 #[.string u] W (Tells W (.tuple #[.string v, .int .i64 0]))) := fun W => by
          have := J.up u W hus
          rw [← hu2, hv1, err_ok hu] at this
          exact this
        have HW : Hid (∀ (a b : ByteArray) (W : World), a.size ≤ 5000 → b.size ≤ 5000 → withinP (lst a) (lst b) = true → Calls Try.prog 20 #[.string a, .string b] W (Tells W (.bool true))) := fun a b W h1 h2 h3 => by
          have := J.within a b W h1 h2
          rw [h3] at this
          exact this
        have HW1 : Hid (∀ W, Calls Try.prog 20 #[.string s, .string s] W (Tells W (.bool true))) := fun W => HW.out s s W (by have := HS.out; omega) (by have := HS.out; omega) (within_self hr)
        have HW2 : Hid (∀ W, Calls Try.prog 20 #[.string s, .string u] W (Tells W (.bool true))) := fun W => HW.out s u W (by have := HS.out; omega) hus (by rw [← hu2]; exact within_up hr)
        have HW3 : Hid (∀ W, Calls Try.prog 20 #[.string s, .string ⟨#[47]⟩] W (Tells W (.bool true))) := fun W => HW.out s _ W (by have := HS.out; omega) (by decide) (within_root hr)
        have HW4 : Hid (∀ W, Calls Try.prog 20 #[.string u, .string v] W (Tells W (.bool true))) := fun W => HW.out u v W hus hvs (by rw [← hu2, ← hv2]; exact within_up hu)
        have HT1 : Hid (∀ W, Calls Try.prog 20 #[.string t, .string u] W (Tells W (.bool (withinP (lst t) (lst u))))) := fun W => J.within t u W (by have := HS.out; omega) hus
        have HT2 : Hid (∀ W, Calls Try.prog 20 #[.string t, .string v] W (Tells W (.bool (withinP (lst t) (lst v))))) := fun W => J.within t v W (by have := HS.out; omega) hvs
        have HIM : Hid (withinP (lst t) (lst u) = true → withinP (lst t) (lst v) = true) := fun h => by
          rw [← hv2, hu2]
          exact within_far h
        generalize withinP (lst t) (lst u) = q1 at *
        generalize withinP (lst t) (lst v) = q2 at *
        clear hr hu hv hu1 hv1 hu2 hv2 hus hvs HW
        go_enter Try.func7, Try.ntmps7
        go_wp2_with fail
        refine (awake_any J w).mono ?_
        rintro e w1 ⟨rfl, hb1⟩
        have HB1 : Hid (Below w.heap.size w w1) := HB0.out.trans (hb1.mono HB0.out.size)
        clear hb1
        go_wp2_with fail
        refine (HU0.out w1).mono ?_
        rintro e w2 ⟨rfl, hb2⟩
        have HB2 : Hid (Below w.heap.size w w2) := HB1.out.trans (hb2.mono HB1.out.size)
        clear hb2
        go_wp2_with fail
        refine (HU2.out w2).mono ?_
        rintro e w3 ⟨rfl, hb3⟩
        have HB3 : Hid (Below w.heap.size w w3) := HB2.out.trans (hb3.mono HB2.out.size)
        clear hb3
        go_wp2_with fail
        refine (HW1.out w3).mono ?_
        rintro e w4 ⟨rfl, hb4⟩
        have HB4 : Hid (Below w.heap.size w w4) := HB3.out.trans (hb4.mono HB3.out.size)
        clear hb4
        go_wp2_with fail
        refine (HW2.out w4).mono ?_
        rintro e w5 ⟨rfl, hb5⟩
        have HB5 : Hid (Below w.heap.size w w5) := HB4.out.trans (hb5.mono HB4.out.size)
        clear hb5
        go_wp2_with fail
        refine (HW3.out w5).mono ?_
        rintro e w6 ⟨rfl, hb6⟩
        have HB6 : Hid (Below w.heap.size w w6) := HB5.out.trans (hb6.mono HB5.out.size)
        clear hb6
        go_wp2_with fail
        refine (HW4.out w6).mono ?_
        rintro e w7 ⟨rfl, hb7⟩
        have HB7 : Hid (Below w.heap.size w w7) := HB6.out.trans (hb7.mono HB6.out.size)
        clear hb7
        go_wp2_with fail
        refine (HT1.out w7).mono ?_
        rintro e w8 ⟨rfl, hb8⟩
        have HB8 : Hid (Below w.heap.size w w8) := HB7.out.trans (hb8.mono HB7.out.size)
        clear hb8
        go_wp2_with fail
        refine (HT2.out w8).mono ?_
        rintro e w9 ⟨rfl, hb9⟩
        have HB9 : Hid (Below w.heap.size w w9) := HB8.out.trans (hb9.mono HB8.out.size)
        clear hb9
        cases q1 with
        | false =>
          go_wp2_with fail
          go_ret
          exact ⟨ret_bool (by simp), HB9.out⟩
        | true =>
          have h2 : q2 = true := HIM.out rfl
          subst h2
          go_wp2_with fail
          go_ret
          exact ⟨ret_bool (by simp), HB9.out⟩

end Go.Proofs.Ytkhojihmnplmcaa
