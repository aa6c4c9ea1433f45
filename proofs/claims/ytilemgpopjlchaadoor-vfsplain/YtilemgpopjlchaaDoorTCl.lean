/-
  The program's Clean, Up.
-/
import Derived.Test.YtilemgpopjlchaaDoorTJn
namespace Go.Proofs.YtilemgpopjlchaaDoor
open Go.RowKit Go.Shelf

theorem right_size {s : ByteArray} (h : rightP (lst s) = true) : s.size ≤ 5000 := by
  have h1 := (right_iff.1 h).1
  rw [lst_length] at h1
  omega
set_option maxHeartbeats 4000000 in
theorem tclean_any (s : ByteArray) (w : World) :
    Calls Tryd.prog 17 #[.string s] w (Tells w (.tuple #[.string (bar (cleanP (lst s))), .int .i64 (errP (lst s))])) := by
  have HR : Hid (Calls Tryd.prog 26 #[.string s] w fun e w' => e = .returned (.bool (rightP (lst s))) ∧ w' = w) := tright_any s w
  have HC : Hid (Cl (leftP (lst s))) := cl_left _
  cases hr : rightP (lst s) with
  | false =>
    have HE : Hid (cleanP (lst s) = [] ∧ errP (lst s) = 1) := ⟨by unfold cleanP; rw [hr]; rfl, by unfold errP; rw [hr]; rfl⟩
    rw [hr] at HR
    clear hr
    go_enter Tryd.func17, Tryd.ntmps17
    go_wp2_with fail
    refine HR.out.mono ?_
    rintro e w1 ⟨rfl, hw1⟩; subst w1
    go_wp2_with fail
    go_ret2
    exact ⟨tup (by rw [HE.out.1]; rfl) HE.out.2.symm, Below.refl _ _⟩
  | true =>
    have HE : Hid (cleanP (lst s) = joinP (leftP (lst s)) ∧ errP (lst s) = 0) := ⟨if_pos hr, if_pos hr⟩
    have HL : Hid (Calls Tryd.prog 33 #[.string s] w fun e w' => RowR w (leftP (lst s)) e w') := tleft_any s w (right_size hr)
    rw [hr] at HR
    clear hr
    go_enter Tryd.func17, Tryd.ntmps17
    go_wp2_with fail
    refine HR.out.mono ?_
    rintro e w1 ⟨rfl, hw1⟩; subst w1
    go_wp2_with fail
    refine HL.out.mono ?_
    rintro e w2 ⟨v2, rfl, hown, hb⟩
    have HJ : Hid (Calls Tryd.prog 32 #[v2] w2 (Tells w2 (.string (bar (joinP (leftP (lst s))))))) := tjoin_any v2 _ _ w2 hown (by have h1 := HC.out.len; have h2 := len_joinF (leftP (lst s)); omega) (by have h1 := HC.out.len; omega)
    have HB : Hid (Below w.heap.size w w2) := hb
    clear hown hb
    go_wp2_with fail
    refine HJ.out.mono ?_
    rintro e w3 ⟨rfl, hb3⟩
    have HB3 : Hid (Below w.heap.size w w3) := HB.out.trans (hb3.mono HB.out.size)
    clear hb3
    go_wp2_with fail
    go_ret2
    exact ⟨tup (by rw [HE.out.1]) HE.out.2.symm, HB3.out⟩

set_option maxHeartbeats 4000000 in
theorem tup_any (s : ByteArray) (w : World) :
    Calls Tryd.prog 43 #[.string s] w (Tells w (.tuple #[.string (bar (upP (lst s))), .int .i64 (errP (lst s))])) := by
  have HR : Hid (Calls Tryd.prog 26 #[.string s] w fun e w' => e = .returned (.bool (rightP (lst s))) ∧ w' = w) := tright_any s w
  have HC : Hid (Cl (leftP (lst s))) := cl_left _
  cases hr : rightP (lst s) with
  | false =>
    have HE : Hid (upP (lst s) = [] ∧ errP (lst s) = 1) := ⟨by unfold upP; rw [hr]; rfl, by unfold errP; rw [hr]; rfl⟩
    rw [hr] at HR
    clear hr
    go_enter Tryd.func43, Tryd.ntmps43
    go_wp2_with fail
    refine HR.out.mono ?_
    rintro e w1 ⟨rfl, hw1⟩; subst w1
    go_wp2_with fail
    go_ret2
    exact ⟨tup (by rw [HE.out.1]; rfl) HE.out.2.symm, Below.refl _ _⟩
  | true =>
    have HE : Hid (upP (lst s) = joinP (leftP (lst s)).dropLast ∧ errP (lst s) = 0) := ⟨if_pos hr, if_pos hr⟩
    have HL : Hid (Calls Tryd.prog 33 #[.string s] w fun e w' => RowR w (leftP (lst s)) e w') := tleft_any s w (right_size hr)
    rw [hr] at HR
    clear hr
    generalize leftP (lst s) = L at *
    go_enter Tryd.func43, Tryd.ntmps43
    go_wp2_with fail
    refine HR.out.mono ?_
    rintro e w1 ⟨rfl, hw1⟩; subst w1
    go_wp2_with fail
    refine HL.out.mono ?_
    rintro e w2 ⟨v2, rfl, hown, hb⟩
    have HW : Hid (Calls Tryd.prog 51 #[v2] w2 fun e w' => (∃ x, e = .returned x ∧ w2.ownsRow w.heap.size 9 1 x L.dropLast.length (cellsT L.dropLast)) ∧ w' = w2) := row_wol hown (by have h1 := HC.out.len; have h2 := len_joinF L; omega)
    have HB : Hid (Below w.heap.size w w2) := hb
    clear hown hb
    go_wp2_with fail
    refine HW.out.mono ?_
    rintro e w3 ⟨⟨x, rfl, hx⟩, hw3⟩; subst w3
    have HJ : Hid (Calls Tryd.prog 32 #[x] w2 (Tells w2 (.string (bar (joinP L.dropLast))))) := tjoin_any x _ _ w2 hx (by have h1 := HC.out.drop.len; have h2 := len_joinF L.dropLast; omega) (by have h1 := HC.out.drop.len; omega)
    clear hx
    go_wp2_with fail
    refine HJ.out.mono ?_
    rintro e w3 ⟨rfl, hb3⟩
    have HB3 : Hid (Below w.heap.size w w3) := HB.out.trans (hb3.mono HB.out.size)
    clear hb3
    go_wp2_with fail
    go_ret2
    exact ⟨tup (by rw [HE.out.1]) HE.out.2.symm, HB3.out⟩

end Go.Proofs.YtilemgpopjlchaaDoor
