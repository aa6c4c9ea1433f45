/-
  The document's Clean, Up.
-/
import Derived.Test.YtilemgpopjlchaaDoorRLf
import Derived.BigQuiet
namespace Go.Proofs.YtilemgpopjlchaaDoor
open Go.RowKit

theorem len_joinF (L : List (List UInt8)) : L.length ≤ (joinF L).length := by
  induction L with
  | nil => exact Nat.le_refl _
  | cons n L ih =>
    rw [joinF_cons, List.length_cons]
    omega
theorem tup {a b : ByteArray} {x y : Int} (h1 : a = b) (h2 : x = y) : Ending.returned (.tuple #[.string a, .int .i64 x]) = .returned (.tuple #[.string b, .int .i64 y]) := by rw [h1, h2]

set_option maxHeartbeats 4000000 in
theorem rclean_any (s : ByteArray) (w : World) (hs : s.size ≤ 90000) :
    Calls Tryd.prog 37 #[.string s] w fun e w' => e = .returned (.tuple #[.string (bar (cleanP (lst s))), .int .i64 (errP (lst s))]) ∧ Below w.heap.size w w' := by
  have HR : Hid (Calls Tryd.prog 29 #[.string s] w fun e w' => e = .returned (.bool (rightP (lst s))) ∧ w' = w) := rright_any s w (by omega)
  have HL : Hid (Calls Tryd.prog 55 #[.string s] w fun e w' => RowR w (leftP (lst s)) e w') := rleft_any s w hs
  have HC : Hid (Cl (leftP (lst s))) := cl_left _
  cases hr : rightP (lst s) with
  | false =>
    have HE : Hid (cleanP (lst s) = [] ∧ errP (lst s) = 1) := ⟨by unfold cleanP; rw [hr]; rfl, by unfold errP; rw [hr]; rfl⟩
    rw [hr] at HR
    clear hr
    go_enter Tryd.func37, Tryd.ntmps37
    go_wp2_with fail
    refine HR.out.mono ?_
    rintro e w1 ⟨rfl, hw1⟩; subst w1
    go_wp2_with fail
    go_ret2
    exact ⟨tup (by rw [HE.out.1]; rfl) HE.out.2.symm, Below.refl _ _⟩
  | true =>
    have HE : Hid (cleanP (lst s) = joinP (leftP (lst s)) ∧ errP (lst s) = 0) := ⟨if_pos hr, if_pos hr⟩
    rw [hr] at HR
    clear hr
    go_enter Tryd.func37, Tryd.ntmps37
    go_wp2_with fail
    refine HR.out.mono ?_
    rintro e w1 ⟨rfl, hw1⟩; subst w1
    go_wp2_with fail
    refine HL.out.mono ?_
    rintro e w2 ⟨v2, rfl, hown, hb⟩
    have HJ : Hid (Calls Tryd.prog 48 #[v2] w2 fun e w' => e = .returned (.string (bar (joinP (leftP (lst s))))) ∧ w' = w2) := rjoin_any v2 _ w2 (tx_row hown) (by have h1 := HC.out.len; have h2 := len_joinF (leftP (lst s)); omega) (by have h1 := HC.out.len; omega)
    have HB : Hid (Below w.heap.size w w2) := hb
    clear hown hb
    go_wp2_with fail
    refine HJ.out.mono ?_
    rintro e w3 ⟨rfl, hw3⟩; subst w3
    go_wp2_with fail
    go_ret2
    exact ⟨tup (by rw [HE.out.1]) HE.out.2.symm, HB.out⟩

set_option maxHeartbeats 4000000 in
theorem rup_any (s : ByteArray) (w : World) (hs : s.size ≤ 90000) :
    Calls Tryd.prog 39 #[.string s] w fun e w' => e = .returned (.tuple #[.string (bar (upP (lst s))), .int .i64 (errP (lst s))]) ∧ Below w.heap.size w w' := by
  have HR : Hid (Calls Tryd.prog 29 #[.string s] w fun e w' => e = .returned (.bool (rightP (lst s))) ∧ w' = w) := rright_any s w (by omega)
  have HL : Hid (Calls Tryd.prog 55 #[.string s] w fun e w' => RowR w (leftP (lst s)) e w') := rleft_any s w hs
  have HC : Hid (Cl (leftP (lst s))) := cl_left _
  cases hr : rightP (lst s) with
  | false =>
    have HE : Hid (upP (lst s) = [] ∧ errP (lst s) = 1) := ⟨by unfold upP; rw [hr]; rfl, by unfold errP; rw [hr]; rfl⟩
    rw [hr] at HR
    clear hr
    go_enter Tryd.func39, Tryd.ntmps39
    go_wp2_with fail
    refine HR.out.mono ?_
    rintro e w1 ⟨rfl, hw1⟩; subst w1
    go_wp2_with fail
    go_ret2
    exact ⟨tup (by rw [HE.out.1]; rfl) HE.out.2.symm, Below.refl _ _⟩
  | true =>
    have HE : Hid (upP (lst s) = joinP (leftP (lst s)).dropLast ∧ errP (lst s) = 0) := ⟨if_pos hr, if_pos hr⟩
    rw [hr] at HR
    clear hr
    generalize leftP (lst s) = L at *
    go_enter Tryd.func39, Tryd.ntmps39
    go_wp2_with fail
    refine HR.out.mono ?_
    rintro e w1 ⟨rfl, hw1⟩; subst w1
    go_wp2_with fail
    refine HL.out.mono ?_
    rintro e w2 ⟨v2, rfl, hown, hb⟩
    have HB : Hid (Below w.heap.size w w2) := hb
    obtain ⟨p, c, rfl⟩ := row_form hown
    obtain ⟨k, hk⟩ : ∃ k, L.length = k := ⟨_, rfl⟩
    by_cases h0 : k = 0
    · have HE2 : Hid (upP (lst s) = [47]) := by
        show _ = _
        rw [HE.out.1, List.eq_nil_of_length_eq_zero (hk.trans h0)]
        rfl
      rw [hk]
      have e0 : ((k : Int) == 0) = true := by simp [h0]
      clear hown hb hk h0
      go_wp2_with fail
      go_ret2
      exact ⟨tup (by rw [HE2.out]; rfl) HE.out.2.symm, HB.out⟩
    · have e0 : ((k : Int) == 0) = false := beq_eq_false_iff_ne.2 (by omega)
      obtain ⟨m, hm⟩ : ∃ m, k = m + 1 := ⟨k - 1, by omega⟩
      obtain ⟨xv, hsc, hcut⟩ := cut_hi ety_s hown m (by omega)
      have e1 : (cellsT L).take m = cellsT L.dropLast := by
        unfold cellsT
        rw [← List.map_take, List.dropLast_eq_take, hk, hm]
        rfl
      rw [e1] at hsc
      have hlen : L.length ≤ 256 := by have h1 := HC.out.len; have h2 := len_joinF L; omega
      have HJ : Hid (Calls Tryd.prog 48 #[xv] w2 fun e w' => e = .returned (.string (bar (joinP L.dropLast))) ∧ w' = w2) := rjoin_any xv _ w2 hsc (by rw [List.length_dropLast]; omega) (by have h1 := HC.out.drop.len; omega)
      rw [hk] at hcut ⊢
      have hd' : (0 : Int) < (k : Int) := by omega
      have hmm : (k : Int) - 1 = (m : Int) := by omega
      have hm5 : m ≤ 90001 := by omega
      have hmw : IntKind.i64.wrap (m : Int) = (m : Int) := by rw [IntKind.wrap_i64]; omega
      clear hown hb hk hm hsc e1 hlen h0
      go_wp2_with fail
      refine HJ.out.mono ?_
      rintro e w3 ⟨rfl, hw3⟩; subst w3
      go_wp2_with fail
      go_ret2
      exact ⟨tup (by rw [HE.out.1]) HE.out.2.symm, HB.out⟩

end Go.Proofs.YtilemgpopjlchaaDoor
